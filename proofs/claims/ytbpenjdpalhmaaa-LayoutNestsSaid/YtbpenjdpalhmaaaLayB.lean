/- The document's own answers: lay, Layout. -/
import Derived.Test.YtbpenjdpalhmaaaLayW
import Derived.Deep.CutBlock
import Derived.Deep.CutRange
import Derived.Deep.RegionWith
import Derived.BigRegion
namespace Go.Proofs.Ytbpenjdpalhmaaa
open Go.Shelf Go.RowKit Go.Lib Go.Sort Go.Proofs.TreeMath
def LGood (W : World) (v : Value) (ns : List Nd) (wd : Nat) (n : Nd) (k : F) : Prop :=
  ∀ (pre post : List Nd) (col ind : Nat) (w : World), ns = pre ++ (n :: (k.flat ++ post)) → ind ≤ 40 * pre.length → col ≤ 1000001 * pre.length → Below W.heap.size W w → Calls Try.prog 32 #[v, .int .i64 (pre.length : Int), .int .i64 (col : Int), .int .i64 (ind : Int), .int .i64 (wd : Int)] w (RX (layT wd (.cons n k .nil) ind col false) w)
def AllL (W : World) (v : Value) (ns : List Nd) (wd : Nat) : F → Prop
  | .nil => True
  | .cons n k r => LGood W v ns wd n k ∧ AllL W v ns wd r
theorem bs_rep (j : Nat) : bs (10 :: List.replicate j 32) ++ bs [32] = bs (10 :: List.replicate (j + 1) 32) := by
  rw [bs_append, List.cons_append, List.replicate_succ']
set_option maxRecDepth 100000 in
set_option maxHeartbeats 4000000 in
theorem lay_line (v : Value) (at_ col ind wd : Nat) (b off n c : Nat) (t : ByteArray) (m d : Int) (w : World) (hv : v = .slice (some ⟨b, off, none⟩) n c) (ha : at_ < n) (hi : ind ≤ 160000) (c0 : w.cell? ⟨b, off + at_ * 4, none⟩ = some (.int .i64 42)) (c1 : w.cell? ⟨b, off + at_ * 4 + 1, none⟩ = some (.string t)) (c2 : w.cell? ⟨b, off + at_ * 4 + 2, none⟩ = some (.int .i64 m)) (c3 : w.cell? ⟨b, off + at_ * 4 + 3, none⟩ = some (.int .i64 d)) :
    Calls Try.prog 32 #[v, .int .i64 (at_ : Int), .int .i64 (col : Int), .int .i64 (ind : Int), .int .i64 (wd : Int)] w (RX (10 :: List.replicate ind 32) w) := by
  subst hv
  have hcv := conv_ten (w.alloc (.cells #[.int .i64 42, .string t, .int .i64 m, .int .i64 d] 38))
  rw [show (w.alloc (.cells #[.int .i64 42, .string t, .int .i64 m, .int .i64 d] 38)).heap.size = w.heap.size + 1 by simp] at hcv
  go_enter Try.func32, Try.ntmps32
  go_wp2
  have hb2 : Below w.heap.size w ((w.alloc (.cells #[.int .i64 42, .string t, .int .i64 m, .int .i64 d] 38)).alloc (.cells #[.int .u8 10] 5)) := ((Below.refl _ _).alloc (Nat.le_refl _) _).alloc (by simp) _
  obtain ⟨w2, hw2⟩ : ∃ w2, w2 = (w.alloc (.cells #[.int .i64 42, .string t, .int .i64 m, .int .i64 d] 38)).alloc (.cells #[.int .u8 10] 5) := ⟨_, rfl⟩
  rw [← hw2] at hb2 ⊢
  clear hw2 c0 c1 c2 c3 hcv
  go_loopw [12, 13] (fun t12 t13 wr => ∃ j : Nat, j ≤ ind ∧ t13 = .int .i64 (j : Int) ∧ t12 = .string (bs (10 :: List.replicate j 32)) ∧ wr = w2) (fun _ t13 _ => ind - (intOf t13).toNat)
  case atStart => exact ⟨0, Nat.zero_le _, rfl, rfl, rfl⟩
  case round =>
    obtain ⟨j, hj, rfl, rfl, rfl⟩ := hrel
    by_cases hlt : j < ind
    · have hza : (bs (10 :: List.replicate j 32)).size ≤ 160001 := by rw [bs_size]; simp; omega
      go_wp2
      go_roundw
      case rel => exact ⟨j + 1, by omega, by go_num, by rw [← bs_rep]; rfl, by first | trivial | rfl⟩
      case measure => simp [intOf]; omega
    · obtain rfl : j = ind := by omega
      go_wp2
      go_ret
      exact ⟨rfl, hb2⟩
theorem lay_top (wd : Nat) (n : Nd) (k : F) (ind col : Nat) (fl : Bool) : layT wd (.cons n k .nil) ind col fl = preT n ind fl ++ layT wd k (ind + addI n) (colA (preT n ind fl) col) (fl || grp n col (flatT k).length wd) := by simp [layT]
theorem lay_line_eq (wd : Nat) (t : ByteArray) (m : Int) (ind col : Nat) (k : F) (h : k.cnt = 0) : layT wd (.cons ⟨42, t, m, (k.cnt : Int)⟩ k .nil) ind col false = 10 :: List.replicate ind 32 := by
  cases k with
  | nil =>
    rw [lay_top]
    show (10 :: List.replicate ind 32) ++ [] = _
    rw [List.append_nil]
  | cons _ _ _ => simp [F.cnt] at h
theorem lay_text_eq (wd : Nat) (t : ByteArray) (m : Int) (ind col : Nat) (k : F) (h : k.cnt = 0) : layT wd (.cons ⟨41, t, m, (k.cnt : Int)⟩ k .nil) ind col false = t.data.toList := by
  cases k with
  | nil =>
    rw [lay_top]
    show t.data.toList ++ [] = _
    rw [List.append_nil]
  | cons _ _ _ => simp [F.cnt] at h
theorem lay_inner (wd : Nat) (n : Nd) (ind col : Nat) (k : F) (h2 : n.kind ≠ 42) (ht : n.text.data.toList = []) : layT wd (.cons n k .nil) ind col false = layT wd k (ind + addI n) col (grp n col (flatT k).length wd) := by
  rw [lay_top]
  have e : preT n ind false = [] := by
    unfold preT
    rw [if_neg h2, ht]
  rw [e, List.nil_append, Bool.false_or]
  rfl
set_option maxRecDepth 100000 in
set_option maxHeartbeats 4000000 in
theorem rlay_good (W : World) (ns : List Nd) (wd bd off cap : Nat) (n : Nd) (k : F) (hN : ns.length ≤ 4000) (hwd : wd ≤ 2000) (hat : NodesAt W (.slice (some ⟨bd, off, none⟩) ns.length cap) ns) (hb : bd < W.heap.size) (hc : Hid (CellsIn W bd off (nodeCells ns))) (hk : Hid (AllL W (.slice (some ⟨bd, off, none⟩) ns.length cap) ns wd k)) (hF : Hid (FGood W (.slice (some ⟨bd, off, none⟩) ns.length cap) ns n k))
    (hk1 : Hid (n.kids = k.cnt)) (hk2 : Hid k.ok) (hk3 : Hid k.fine) (hn : Hid (okN n = true)) : LGood W (.slice (some ⟨bd, off, none⟩) ns.length cap) ns wd n k := by
  intro pre post col ind w hns hind hcol hbel
  have hlen : ns.length = pre.length + (1 + k.sz + post.length) := by rw [hns]; simp [F.flat_length]; omega
  have hi : pre.length < ns.length := by omega
  have hnode : ns.getD pre.length default = n := by rw [hns]; simp [List.getD_eq_getElem?_getD]
  obtain ⟨c0, c1, c2, c3⟩ := (hc.out.kept (hbel.block bd hb)).node pre.length hi
  rw [hnode] at c0 c1 c2 c3
  have hbw : bd < w.heap.size := Nat.lt_of_lt_of_le hb hbel.size
  have hkids : kidsI (kk ns) pre.length = startsF k (pre.length + 1) := by
    have := kids_flat n k hk1.out hk2.out pre post
    rw [← hns] at this
    exact this
  have KIDS := Lib.hid (fun (W2 : World) (hW : Below w.heap.size w W2) => ref_kids _ ns (pre.length : Int) W2 ((hat.below hbel).below hW) (by omega))
  rw [hkids] at KIDS
  have FLAT := Lib.hid (fun (W2 : World) (hW : Below w.heap.size w W2) => hF.out pre post W2 hns (hbel.trans (hW.mono hbel.size)))
  have hszk : k.sz ≤ 4000 := by omega
  have hcs := F.cnt_le k
  have hlb2 : pre.length + 1 + k.sz ≤ 4000 := by omega
  have HNS := Lib.hid hns
  obtain ⟨I, hI⟩ : ∃ I, I = pre.length := ⟨_, rfl⟩
  obtain ⟨M, hM⟩ : ∃ M, M = ns.length := ⟨_, rfl⟩
  rw [← hI, ← hM]
  rw [← hI] at c0 c1 c2 c3 hi KIDS FLAT hind hcol hlb2
  rw [← hM] at hi hN KIDS FLAT
  have HI := Lib.hid hI
  have HM := Lib.hid hM
  have HB := Lib.hid hbel
  clear hI hM hns hlen hnode hkids hat hbel
  have hfl := flat_len k hk3.out
  have hno := hn.out
  obtain ⟨k0, t0, m0, d0⟩ := n
  simp only at c0 c1 c2 c3 hk1
  have hk1' := hk1.out
  subst hk1'
  by_cases e1 : k0 = 41
  · subst e1
    have hd : k.cnt = 0 := by
      rw [ok41] at hno
      simp at hno
      omega
    rw [lay_text_eq wd t0 m0 ind col k hd]
    clear hd hno hfl
    go_enter Try.func32, Try.ntmps32
    go_wp2
    go_ret
    exact ⟨by rw [bs_of]; rfl, (Below.refl _ _).alloc (Nat.le_refl _) _⟩
  by_cases e2 : k0 = 42
  · subst e2
    have hd : k.cnt = 0 := by
      rw [ok42] at hno
      simp at hno
      omega
    rw [lay_line_eq wd t0 m0 ind col k hd]
    exact lay_line _ I col ind wd bd off M cap t0 m0 _ w rfl hi (by omega) c0 c1 c2 c3
  have ht := (okN_text _ hno).2 e1
  rw [lay_inner wd ⟨k0, t0, m0, (k.cnt : Int)⟩ ind col k e2 ht]
  have g1 : (k0 == 41) = false := by simpa using e1
  have g2 : (k0 == 42) = false := by simpa using e2
  have HT := Lib.hid ht
  have E2 := Lib.hid e2
  clear ht e1
  go_enter Try.func32, Try.ntmps32
  go_upto_block 0 with fail
  have hb2 : Below w.heap.size w (w.alloc (.cells #[.int .i64 k0, .string t0, .int .i64 m0, .int .i64 (k.cnt : Int)] 38)) := (Below.refl _ _).alloc (Nat.le_refl _) _
  have hx2 := node_cells w k0 t0 m0 (k.cnt : Int)
  have hz2 : w.heap.size < (w.alloc (.cells #[.int .i64 k0, .string t0, .int .i64 m0, .int .i64 (k.cnt : Int)] 38)).heap.size := by simp
  obtain ⟨w2, hw2⟩ : ∃ w2, w2 = w.alloc (.cells #[.int .i64 k0, .string t0, .int .i64 m0, .int .i64 (k.cnt : Int)] 38) := ⟨_, rfl⟩
  rw [← hw2] at hb2 hx2 hz2 ⊢
  have x0 := Lib.cell_of_heap hx2 0
  have x2 := Lib.cell_of_heap hx2 2
  simp only [List.getElem?_toArray, List.getElem?_cons_succ, List.getElem?_cons_zero] at x0 x2
  have HB2 := Lib.hid hb2
  clear hw2 hb2 hx2 c0 c1 c2 c3
  go_cut [3] from 22 to 57 (fun t3 wx => t3 = .int .i64 ((ind + addI ⟨k0, t0, m0, (k.cnt : Int)⟩ : Nat) : Int) ∧ grp ⟨k0, t0, m0, (k.cnt : Int)⟩ col (flatT k).length wd = false ∧ Below w.heap.size w wx)
  case first =>
    by_cases e3 : k0 = 43
    · subst e3
      have hm := okN_num _ hno
      simp only at hm
      obtain ⟨m, rfl⟩ : ∃ m : Nat, m0 = (m : Int) := ⟨m0.toNat, by omega⟩
      have hmb : m ≤ 40 := by omega
      clear hno hm g1 g2
      go_wp2_with fail
      go_meet
      case rel =>
        refine ⟨?_, rfl, HB2.out⟩
        have e' : addI ⟨43, t0, (m : Int), (k.cnt : Int)⟩ = m := by
          show (if (43 : Int) = 43 then ((m : Int)).toNat else 0) = m
          rw [if_pos rfl, Int.toNat_natCast]
        rw [e']
        go_num
    by_cases e4 : k0 = 44
    · subst e4
      have hfe : flatT (.cons ⟨44, t0, m0, (k.cnt : Int)⟩ k .nil) = flatT k := by
        rw [flat_one]
        unfold ownT
        rw [if_neg (show ¬ (44 : Int) = 42 by decide), HT.out]
        rfl
      have FLAT2 := Lib.hid (FLAT.out w2 HB2.out)
      rw [hfe] at FLAT2
      clear hno e3 g1 g2 hfe
      obtain ⟨T, hT⟩ : ∃ T, T = flatT k := ⟨_, rfl⟩
      have hTb : T.length ≤ 4000004000 := by rw [hT]; omega
      have hzT : (bs T).size = T.length := bs_size T
      have HTT := Lib.hid hT
      rw [← hT] at FLAT2
      clear hT
      have hzb : (bs T).size ≤ 4000004000 := by omega
      have HZT := Lib.hid hzT
      clear hzT
      by_cases hd : (col : Int) + ((bs T).size : Int) ≤ (wd : Int)
      · have HG : Hid (grp ⟨44, t0, m0, (k.cnt : Int)⟩ col (flatT k).length wd = true) := Lib.hid (by
          rw [← HTT.out]
          have := HZT.out
          unfold grp
          simp
          omega)
        go_wp2_with fail
        refine FLAT2.out.mono ?_
        rintro e w3 ⟨rfl, b3⟩
        have B3 := Lib.hid b3
        clear b3
        go_wp2_with fail
        go_ret
        exact ⟨by rw [HG.out, lay_flat, ← HTT.out]; rfl, HB2.out.trans (B3.out.mono HB2.out.size)⟩
      · have HG : Hid (grp ⟨44, t0, m0, (k.cnt : Int)⟩ col (flatT k).length wd = false) := Lib.hid (by
          rw [← HTT.out]
          have := HZT.out
          unfold grp
          simp
          omega)
        go_wp2_with fail
        refine FLAT2.out.mono ?_
        rintro e w3 ⟨rfl, b3⟩
        have B3 := Lib.hid b3
        clear b3
        go_wp2_with fail
        go_meet
        case rel => exact ⟨by show _ = Value.int .i64 (((ind + 0 : Nat)) : Int); rfl, HG.out, HB2.out.trans (B3.out.mono HB2.out.size)⟩
    have e5 : k0 = 45 := by
      by_cases h45 : k0 = 45
      · exact h45
      · have := ok_other k0 t0 m0 (k.cnt : Int) (by simpa using g1) (by simpa using g2) e3 e4 h45
        rw [this] at hno
        cases hno
    subst e5
    clear hno e3 e4 g1 g2
    go_wp2_with fail
    go_meet
    case rel => exact ⟨by show _ = Value.int .i64 (((ind + 0 : Nat)) : Int); rfl, rfl, HB2.out⟩
  case rest =>
    obtain ⟨rfl, hgf, hb3⟩ := hcut
    obtain ⟨IND, hIND⟩ : ∃ IND, IND = ind + addI ⟨k0, t0, m0, (k.cnt : Int)⟩ := ⟨_, rfl⟩
    have hINDb : IND ≤ 40 * (I + 1) := by
      have := addI_le _ hn.out
      rw [hIND]
      omega
    rw [← hIND]
    have HIND := Lib.hid hIND
    have HGF := Lib.hid hgf
    clear hIND hgf x0 x2 hz2 g1 g2 hno HB2 e2
    go_wp2_with fail
    refine (KIDS.out _ hb3).mono ?_
    rintro e w1 ⟨kv, rfl, hkv, hb1⟩
    obtain ⟨hl1, q, kc, rfl, _, _, hq⟩ := hkv
    rw [show (ofNats (startsF k (I + 1))).length = k.cnt by simp [ofNats, startsF_length]] at hq ⊢
    have hbw1 : Below w.heap.size w w1 := hb3.trans (hb1.mono hb3.size)
    have HQ := Lib.hid hq
    clear hq hl1 hb1 hb3
    go_wp2_with fail
    go_loopw [15, 17] (fun t6 t8 wr => ∃ (j Q C : Nat) (g : F) (pre' : List Nd) (acc : List UInt8), j + g.cnt = k.cnt ∧ t8 = .int .i64 (j : Int) ∧ t6 = .string (bs acc) ∧ (startsF k (I + 1)).drop j = startsF g Q ∧ Q = pre'.length ∧ ns = pre' ++ (g.flat ++ post) ∧ C = colA acc col ∧ acc ++ layT wd g IND C false = layT wd k IND col false ∧ acc.length + col ≤ 1000001 * Q ∧ AllL W (.slice (some ⟨bd, off, none⟩) ns.length cap) ns wd g ∧ g.fine ∧ Below w1.heap.size w1 wr ∧ Q + g.sz = I + 1 + k.sz ∧ I + 1 ≤ Q) (fun _ t8 _ => k.cnt - (intOf t8).toNat)
    case atStart =>
      refine ⟨0, I + 1, col, k, pre ++ [⟨k0, t0, m0, (k.cnt : Int)⟩], [], by omega, rfl, rfl, rfl, by rw [List.length_append, ← HI.out]; rfl, ?_, rfl, rfl, by simp only [List.length_nil]; omega, hk.out, hk3.out, Below.refl _ _, rfl, Nat.le_refl _⟩
      rw [HNS.out]
      simp
    case round =>
      obtain ⟨wo, hwo⟩ : ∃ wo : World, wo = wr := ⟨_, rfl⟩
      subst hwo
      obtain ⟨j, Q, C, g, pre', acc, hj, rfl, rfl, hdr, hQ, hns', hC, hacc, haccl, hgood, hfine, hbe, hqs, hIQ⟩ := hrel
      have hBE := Lib.hid hbe
      have hBW := Lib.hid (hbw1.trans (hbe.mono hbw1.size))
      have hsz1 := hbe.size
      clear hbe
      rcases g with _ | ⟨n1, k1, r1⟩
      · have hj' : j = k.cnt := by simpa [F.cnt] using hj
        subst hj'
        have HA := Lib.hid hacc
        clear hj hdr hQ hns' hacc hgood hC haccl hfine hqs hIQ
        go_wp2
        go_ret
        refine ⟨?_, hBW.out⟩
        rw [HGF.out, ← HIND.out, ← HA.out, show layT wd F.nil IND C false = [] from rfl, List.append_nil]
        rfl
      · have hlt : j < k.cnt := by simp only [F.cnt] at hj; omega
        rw [startsF_cons] at hdr
        obtain ⟨d1, d2, d3⟩ := drop_head hdr
        obtain ⟨b2, o2, rfl, hb2, hc2⟩ := HQ.out (by omega)
        have cj := hc2.int j (by simpa [ofNats] using d1)
        rw [ofNats_get, d2] at cj
        have cj2 := (hBE.out.cell (p := ⟨b2, o2 + j, none⟩) hb2).trans cj
        have hCle := colA_le acc col
        simp only [F.sz] at hqs
        have hcall := fun (W2 : World) (hW : Below wo.heap.size wo W2) => hgood.1 pre' (r1.flat ++ post) C IND W2 (by rw [hns']; simp [F.flat]) (by rw [← hQ]; omega) (by rw [hC, ← hQ]; omega) (HB.out.trans ((hBW.out.trans (hW.mono hBW.out.size)).mono HB.out.size))
        rw [← hQ, ← HM.out] at hcall
        have HCALL := Lib.hid hcall
        have hll := lay_len wd (.cons n1 k1 .nil) ⟨hfine.1, hfine.2.1, hfine.2.2.1, trivial⟩ IND C false (by simp only [F.sz]; omega)
        simp only [F.sz] at hll
        have hlc := lay_cons wd n1 k1 r1 IND C false
        have hza : (bs acc).size ≤ 8000000000 := by rw [bs_size]; omega
        have COL := Lib.hid (fun W2 : World => column_any (bs acc) col W2 (by omega) (by omega))
        rw [bs_list, ← hC] at COL
        obtain ⟨P, hP⟩ : ∃ P, P = layT wd (.cons n1 k1 .nil) IND C false := ⟨_, rfl⟩
        have hzb : (bs P).size ≤ 8000000000 := by rw [bs_size, hP]; omega
        rw [← hP] at HCALL hlc hll
        have HPL : Hid (P.length ≤ 1000001 * (1 + k1.sz)) := Lib.hid (by omega)
        have HACC : Hid ((acc ++ P) ++ layT wd r1 IND (colA P C) false = layT wd k IND col false) := Lib.hid (by rw [List.append_assoc, ← hlc]; exact hacc)
        have HCC : Hid (colA P C = colA (acc ++ P) col) := Lib.hid (by rw [colA_append, hC])
        have HDR := Lib.hid d3
        have HQE := Lib.hid hQ
        have HNS' := Lib.hid hns'
        have HGOOD := Lib.hid hgood
        have HFINE := Lib.hid hfine
        have HJ := Lib.hid hj
        have HQS := Lib.hid hqs
        have HAL := Lib.hid haccl
        clear hcall hlc hll hP hacc d1 d2 d3 hdr hQ hns' hgood hj cj hC hfine hqs haccl hCle
        go_wp2_with fail
        go_region_with (first
          | (go_at_call 44; refine (COL.out _).mono ?_; rintro e w5 ⟨rfl, rfl⟩)
          | (go_at_call 32; refine (HCALL.out _ (by first | exact Below.refl _ _ | exact (Below.refl _ _).drew)).mono ?_; (rintro e w4 ⟨rfl, b4⟩; have B4 := Lib.hid b4; clear b4)))
        all_goals
          go_wp2_with fail
          go_roundw
          case rel =>
            have hal := HAL.out
            have hpl := HPL.out
            refine ⟨j + 1, Q + 1 + k1.sz, colA P C, r1, pre' ++ (n1 :: k1.flat), acc ++ P, by have := HJ.out; simp only [F.cnt] at this; omega, by go_num, by rw [← bs_append], HDR.out, by rw [List.length_append, ← HQE.out]; simp [F.flat_length]; omega, by rw [HNS'.out]; simp [F.flat], HCC.out, HACC.out, by rw [List.length_append]; omega, HGOOD.out.2, HFINE.out.2.2.2, hBE.out.trans (((Below.refl _ _).drew.trans B4.out).mono hsz1), by have := HQS.out; omega, by omega⟩
          case measure => simp [intOf]; omega
theorem all_lay (W : World) (ns : List Nd) (wd bd off cap : Nat) (hN : ns.length ≤ 4000) (hwd : wd ≤ 2000) (hat : NodesAt W (.slice (some ⟨bd, off, none⟩) ns.length cap) ns) (hb : bd < W.heap.size) (hc : CellsIn W bd off (nodeCells ns)) (f : F) : f.ok → f.fine → AllL W (.slice (some ⟨bd, off, none⟩) ns.length cap) ns wd f := by
  induction f with
  | nil => intro _ _; trivial
  | cons n k r hk hr =>
    rintro ⟨h1, h2, h3⟩ ⟨g1, _, g3, g4⟩
    exact ⟨rlay_good W ns wd bd off cap n k hN hwd hat hb (Lib.hid hc) (Lib.hid (hk h2 g3)) (Lib.hid (flat_good W ns bd off cap n k hN hat hb (Lib.hid hc) (Lib.hid (all_flat W ns bd off cap hN hat hb hc k h2 g3)) (Lib.hid h1) (Lib.hid h2) (Lib.hid g3) (Lib.hid g1))) (Lib.hid h1) (Lib.hid h2) (Lib.hid g3) (Lib.hid g1), hr h3 g4⟩
end Go.Proofs.Ytbpenjdpalhmaaa
