/- The document's Vars. -/
import Derived.Test.YtlalnmefppbebaaSynR
import Derived.Test.YtlalnmefppbebaaSynU
namespace Go.Proofs.Ytlalnmefppbebaa
open Go.RowKit Go.Proofs.TreeMath
def varsR : F → List ByteArray
  | .nil => []
  | .cons n k r => (if n.kind = 22 then [n.text] else varsR k) ++ varsR r
def varT (n : Nd) (k : F) : List ByteArray := if n.kind = 22 then [n.text] else varsR k
theorem varsR_cons (n : Nd) (k r : F) : varsR (.cons n k r) = varT n k ++ varsR r := rfl
theorem varsR_len (f : F) : (varsR f).length ≤ f.sz := by
  induction f with
  | nil => exact Nat.le_refl _
  | cons n k r hk hr =>
    simp only [varsR, F.sz, List.length_append]
    split <;> (try simp) <;> omega
/-- Where all is right, it is all names. -/
theorem varsR_F (f : F) : f.ok → ∀ q i, chkF f q i = 0 → varsR f = varsF f := by
  induction f with
  | nil => intros; rfl
  | cons n k r hk hr =>
    rintro ⟨h1, h2, h3⟩ q i h
    simp only [chkF, or_eq_zero] at h
    obtain ⟨c1, c2, c3⟩ := h
    simp only [varsR, varsF]
    rw [hr h3 _ _ c3]
    by_cases h22 : n.kind = 22
    · have hk0 := fault_kids c1
      rw [h22, h1] at hk0
      have : k.cnt = 0 := by simpa [kidsB] using hk0
      have : k = .nil := by cases k with | nil => rfl | cons _ _ _ => simp [F.cnt] at this
      subst this
      simp [h22, varsF]
    · rw [if_neg h22, if_neg h22, hk h2 _ _ c2]
      simp
def VGood (W : World) (v : Value) (ns : List Nd) (n : Nd) (k : F) : Prop :=
  ∀ (pre post : List Nd) (w : World), ns = pre ++ (n :: (k.flat ++ post)) → Below W.heap.size W w → Calls Try.prog 22 #[v, .int .i64 (pre.length : Int)] w (SOwn (varT n k) w)
def AllV (W : World) (v : Value) (ns : List Nd) : F → Prop
  | .nil => True
  | .cons n k r => VGood W v ns n k ∧ AllV W v ns r
theorem strs_src {w : World} {q : Option Addr} {m c : Nat} {ss : List ByteArray} (h : StrsAt w (.slice q m c) ss) : ss.length = m ∧ (m ≠ 0 → ∃ ad, q = some ad ∧ ∀ j u, (strCells ss)[j]? = some u → w.cell? (ad.add j) = some u) := by
  obtain ⟨_, p, c', hv, _, _, hs⟩ := h
  simp only [Value.slice.injEq] at hv
  obtain ⟨rfl, rfl, rfl⟩ := hv
  refine ⟨rfl, fun h0 => ?_⟩
  obtain ⟨b, off, rfl, _, hc⟩ := hs h0
  exact ⟨_, rfl, fun j u hj => by
    have := hc j u hj
    simp only [Addr.add]
    split
    · rename_i h0; subst h0; simpa using this
    · exact this⟩
set_option maxRecDepth 100000 in
set_option maxHeartbeats 8000000 in
theorem vars_good (W : World) (ns : List Nd) (bd off cap : Nat) (n : Nd) (k : F) (hN : ns.length ≤ 4000) (hat : NodesAt W (.slice (some ⟨bd, off, none⟩) ns.length cap) ns) (hb : bd < W.heap.size) (hc : Hid (CellsIn W bd off (nodeCells ns))) (hk : Hid (AllV W (.slice (some ⟨bd, off, none⟩) ns.length cap) ns k))
    (hk1 : Hid (n.kids = k.cnt)) (hk2 : Hid k.ok) (pre post : List Nd) (w : World) (hns : ns = pre ++ (n :: (k.flat ++ post))) (hbel : Below W.heap.size W w) :
    Calls Try.prog 22 #[.slice (some ⟨bd, off, none⟩) ns.length cap, .int .i64 (pre.length : Int)] w (SOwn (varT n k) w) := by
  have hlen : ns.length = pre.length + (1 + k.sz + post.length) := by rw [hns]; simp [F.flat_length]; omega
  have hi : pre.length < ns.length := by omega
  have hnode : ns.getD pre.length default = n := by rw [hns]; simp [List.getD_eq_getElem?_getD]
  have hcw := hc.out.kept (hbel.block bd hb)
  obtain ⟨c0, c1, c2, c3⟩ := hcw.node pre.length hi
  rw [hnode] at c0 c1 c2 c3
  have hbw : bd < w.heap.size := Nat.lt_of_lt_of_le hb hbel.size
  have hcs := F.cnt_le k
  have hkids : kidsI (kk ns) pre.length = startsF k (pre.length + 1) := by
    have := kids_flat n k hk1.out hk2.out pre post
    rw [← hns] at this
    exact this
  have KIDS := Lib.hid (fun (W2 : World) (hW : Below w.heap.size w W2) => ref_kids _ ns (pre.length : Int) W2 ((hat.below hbel).below hW) (by omega))
  rw [hkids] at KIDS
  have hszk : k.cnt ≤ 4000 := by omega
  have hszv : (varsR k).length ≤ 4000 := by have := varsR_len k; omega
  have HNS := Lib.hid hns
  obtain ⟨I, hI⟩ : ∃ I, I = pre.length := ⟨_, rfl⟩
  obtain ⟨M, hM⟩ : ∃ M, M = ns.length := ⟨_, rfl⟩
  rw [← hI, ← hM]
  rw [← hI] at c0 c1 hi KIDS
  rw [← hM] at hi hN KIDS hk
  have HI := Lib.hid hI
  have HB := Lib.hid hbel
  clear hI hM hns hlen hnode hkids hat hbel hcw c2 c3
  obtain ⟨k0, t0, m0, d0⟩ := n
  simp only at c0 c1 hk1
  by_cases h22 : k0 = 22
  · subst h22
    rw [show varT ⟨22, t0, m0, d0⟩ k = [t0] from rfl]
    go_enter Try.func22, Try.ntmps22
    go_wp2_with fail
    go_ret
    exact ⟨_, rfl, ⟨by simp [strCells], .inr ⟨w.heap.size, 1, #[.string t0], rfl, Nat.le_refl _, by show (w.heap.push _)[w.heap.size]? = _; simp, Nat.le_refl _, by simp [maxLen], rfl, by simp [strCells]⟩⟩, (Below.refl _ _).alloc (Nat.le_refl _) _⟩
  · have g22 : (k0 == 22) = false := by simpa using h22
    rw [show varT ⟨k0, t0, m0, d0⟩ k = varsR k by simp [varT, h22]]
    clear h22 c1
    obtain ⟨i0, hi0, hz0, hz1, hz2⟩ := infoStr
    have HIN := Lib.hid (And.intro hi0 (And.intro hz0 (And.intro hz1 hz2)))
    clear hi0 hz0 hz1 hz2
    have bz : Below w.heap.size w (w.alloc (.cells #[] 9)) := (Below.refl _ _).alloc (Nat.le_refl _) _
    have BZ := Lib.hid bz
    have RZ := Lib.hid (show SRow w.heap.size (w.alloc (.cells #[] 9)) (.slice (some ⟨w.heap.size, 0, none⟩) 0 0) [] from World.ownsRow_made w #[] 0 (Nat.le_refl _) (by simp [maxLen]) rfl)
    have HZ0 : Hid ((w.alloc (.cells #[] 9)).heap[w.heap.size]? = some (.cells #[] 9 (0, 0))) := Lib.hid (by show (w.heap.push _)[w.heap.size]? = _; simp)
    have KID2 := Lib.hid (KIDS.out _ bz)
    clear bz
    go_enter Try.func22, Try.ntmps22
    go_wp2_with fail
    refine KID2.out.mono ?_
    rintro e w2 ⟨kv, rfl, hkv, b2⟩
    obtain ⟨hl1, kp, kc, rfl, _, _, hq⟩ := hkv
    rw [show (ofNats (startsF k (I + 1))).length = k.cnt by simp [ofNats, startsF_length]] at hq ⊢
    have B2 := Lib.hid (BZ.out.trans (b2.mono BZ.out.size))
    have R2 := Lib.hid (RZ.out.after b2)
    have HZ2 := Lib.hid ((b2.block _ ((by simp))).trans HZ0.out)
    have HQ := Lib.hid hq
    clear hq hl1 b2 c0
    go_wp2_with fail
    go_loopw [5, 7] (fun s5 s7 wr => ∃ (j Q : Nat) (g : F) (pre' : List Nd) (wv : Value) (done : List ByteArray), wv = s5 ∧ j + g.cnt = k.cnt ∧ s7 = .int .i64 (j : Int) ∧ (startsF k (I + 1)).drop j = startsF g Q ∧ Q = pre'.length ∧ ns = pre' ++ (g.flat ++ post) ∧ done ++ varsR g = varsR k ∧ AllV W (.slice (some ⟨bd, off, none⟩) M cap) ns g ∧ SRow w.heap.size wr wv done ∧ Below w.heap.size w wr ∧ (k.cnt ≠ 0 → ∃ b o, kp = some ⟨b, o, none⟩ ∧ b < wr.heap.size ∧ CellsIn wr b o (intCells (ofNats (startsF k (I + 1)))) ∧ wv.ownBlock ≠ some b)) (fun _ s7 _ => k.cnt - (intOf s7).toNat)
    case atStart =>
      refine ⟨0, I + 1, k, pre ++ [⟨k0, t0, m0, d0⟩], _, [], rfl, by omega, rfl, rfl, by rw [List.length_append, ← HI.out]; rfl, by rw [HNS.out]; simp, rfl, hk.out, R2.out, B2.out, fun h0 => ?_⟩
      obtain ⟨b, o, e1, e2, e3⟩ := HQ.out h0
      refine ⟨b, o, e1, e2, e3, fun e => ?_⟩
      have hb : w.heap.size = b := by simpa [Value.ownBlock] using e
      have := e3.int 0 (by simp [ofNats, startsF_length]; omega)
      rw [← hb, Lib.cell_of_heap HZ2.out] at this
      simp at this
    case round =>
      obtain ⟨wo, hwo⟩ : ∃ wo : World, wo = wr := ⟨_, rfl⟩
      subst hwo
      obtain ⟨j, Q, g, pre', wv, dn, rfl, hj, rfl, hdr, hQ, hns', hres, hgood, hrow, hbl, hap⟩ := hrel
      have ROW := Lib.hid hrow
      have BL := Lib.hid hbl
      have AP := Lib.hid hap
      clear hrow hbl hap
      rcases g with _ | ⟨n1, k1, r1⟩
      · have hj' : j = k.cnt := by simpa [F.cnt] using hj
        subst hj'
        have e : dn = varsR k := by simpa [varsR] using hres
        subst e
        clear hj hdr hQ hns' hres hgood AP
        go_wp2_with fail
        go_ret
        exact ⟨_, rfl, ROW.out, BL.out⟩
      · have hlt : j < k.cnt := by simp only [F.cnt] at hj; omega
        rw [startsF_cons] at hdr
        obtain ⟨d1, d2, d3⟩ := drop_head hdr
        obtain ⟨b2, o2, rfl, hb2, hc2, hne⟩ := AP.out (by omega)
        have cj := hc2.int j (by simpa [ofNats] using d1)
        rw [ofNats_get, d2] at cj
        rw [varsR_cons] at hres
        have HC := Lib.hid (hgood.1 pre' (r1.flat ++ post) wo (by rw [hns']; simp [F.flat]) (HB.out.trans (BL.out.mono HB.out.size)))
        rw [← hQ] at HC
        have hltz : ((j : Int) < (k.cnt : Int)) := by omega
        have HCC := Lib.hid (And.intro hb2 (And.intro hc2 hne))
        have LEN : Hid (dn.length + (varT n1 k1).length ≤ 4000) := Lib.hid (by have := congrArg List.length hres; simp at this; omega)
        have REST := Lib.hid (And.intro hj (And.intro hQ (And.intro hns' (And.intro hgood.2 (And.intro d3 hres)))))
        clear hj hQ hns' hgood hdr d1 d2 d3 hres hne hc2 AP
        go_wp2_with fail
        refine HC.out.mono ?_
        rintro e w4 ⟨v4, rfl, r4, b4⟩
        obtain ⟨q4, c4, rfl⟩ := strs_form r4.at
        have SRC := Lib.hid (strs_src r4.at)
        have R4 := Lib.hid (ROW.out.after b4)
        have B4 := Lib.hid (BL.out.trans (b4.mono BL.out.size))
        have HC4 := Lib.hid (show b2 < w4.heap.size ∧ CellsIn w4 b2 o2 (intCells (ofNats (startsF k (I + 1)))) from ⟨Nat.lt_of_lt_of_le hb2 b4.size, HCC.out.2.1.kept (b4.block b2 hb2)⟩)
        have SZ4 := Lib.hid b4.size
        unfold SRow at R4
        clear r4 b4 cj
        go_wp2_with ((at_builtin; refine wpList_append_any _ rfl _ _ 31 rfl w.heap.size 9 i0 (.string ByteArray.empty) 1 16 Try.underlying31 HIN.out.1 HIN.out.2.1 HIN.out.2.2.1 HIN.out.2.2.2 rfl (by decide) _ _ _ rfl R4.out q4 (varT n1 k1).length c4 (strCells (varT n1 k1)) rfl (by rw [length_strCells]) SRC.out.2 (strCells_one _) (by have := LEN.out; unfold maxLen; omega) (by have := LEN.out; omega) B4.out.size ?_; intro p' cap' w5 hown hgrow hloc; have HO5 := Lib.hid hown; have HG5 := Lib.hid hgrow; have HL5 := Lib.hid hloc; clear hown hgrow hloc))
        go_roundw
        case rel =>
          obtain ⟨hj, hQ, hns', hg2, d3, hres⟩ := REST.out
          have hsz := HG5.out.size
          refine ⟨j + 1, Q + 1 + k1.sz, r1, pre' ++ (n1 :: k1.flat), _, dn ++ varT n1 k1, rfl, by simp only [F.cnt] at hj; omega, by go_num, d3, by rw [List.length_append, ← hQ]; simp [F.flat_length]; omega, by rw [hns']; simp [F.flat], by rw [List.append_assoc]; exact hres, hg2, ?_, B4.out.grown HG5.out B4.out.size (fun q hq => (World.ownsRow.there R4.out hq).1), fun _ => ⟨b2, o2, rfl, by have := HC4.out.1; omega, ?_, ?_⟩⟩
          · unfold SRow
            rw [List.length_append, strCells_append]
            exact HO5.out
          · exact HC4.out.2.kept (HG5.out.block b2 HC4.out.1 (fun e => HCC.out.2.2 e.symm))
          · rcases HL5.out with e | e
            · rw [e]; exact HCC.out.2.2
            · rw [e]
              intro e2
              have := Option.some.inj e2
              have h1 := HCC.out.1
              have h2 := SZ4.out
              omega
        case measure => simp [intOf]; omega
theorem vars_all (W : World) (ns : List Nd) (bd off cap : Nat) (hN : ns.length ≤ 4000) (hat : NodesAt W (.slice (some ⟨bd, off, none⟩) ns.length cap) ns) (hb : bd < W.heap.size) (hc : CellsIn W bd off (nodeCells ns)) (f : F) : f.ok → AllV W (.slice (some ⟨bd, off, none⟩) ns.length cap) ns f := by
  induction f with
  | nil => intro _; trivial
  | cons n k r hk hr =>
    rintro ⟨h1, h2, h3⟩
    exact ⟨fun pre post w hns hbel => vars_good W ns bd off cap n k hN hat hb (Lib.hid hc) (Lib.hid (hk h2)) (Lib.hid h1) (Lib.hid h2) pre post w hns hbel, hr h3⟩
end Go.Proofs.Ytlalnmefppbebaa
