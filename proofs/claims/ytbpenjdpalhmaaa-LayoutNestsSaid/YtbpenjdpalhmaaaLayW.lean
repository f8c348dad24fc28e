/- The document's own answers: Flat. -/
import Derived.Test.YtbpenjdpalhmaaaLayZ
namespace Go.Proofs.Ytbpenjdpalhmaaa
open Go.Shelf Go.RowKit Go.Lib Go.Sort Go.Proofs.TreeMath
/-- A function that returns a text. -/
def RX (l : List UInt8) (W : World) (e : Ending) (w' : World) : Prop := e = .returned (.string (bs l)) ∧ Below W.heap.size W w'
theorem startsF_cons (n : Nd) (k r : F) (p : Nat) : startsF (.cons n k r) p = p :: startsF r (p + 1 + k.sz) := rfl
theorem ofNats_get (xs : List Nat) (i : Nat) : (ofNats xs).getD i 0 = ((xs.getD i 0 : Nat) : Int) := by
  simp only [ofNats, List.getD_eq_getElem?_getD, List.getElem?_map]
  cases xs[i]? <;> rfl
theorem drop_head {xs : List Nat} {i q : Nat} {r : List Nat} (h : xs.drop i = q :: r) : i < xs.length ∧ xs.getD i 0 = q ∧ xs.drop (i + 1) = r := by
  have hi : i < xs.length := by
    rcases Nat.lt_or_ge i xs.length with h' | h'
    · exact h'
    · rw [List.drop_eq_nil_of_le h'] at h; cases h
  rw [List.drop_eq_getElem_cons hi] at h
  injection h with h1 h2
  exact ⟨hi, by rw [List.getD_eq_getElem?_getD, List.getElem?_eq_getElem hi]; exact h1, h2⟩
def FGood (W : World) (v : Value) (ns : List Nd) (n : Nd) (k : F) : Prop :=
  ∀ (pre post : List Nd) (w : World), ns = pre ++ (n :: (k.flat ++ post)) → Below W.heap.size W w → Calls Try.prog 15 #[v, .int .i64 (pre.length : Int)] w (RX (flatT (.cons n k .nil)) w)
def AllF (W : World) (v : Value) (ns : List Nd) : F → Prop
  | .nil => True
  | .cons n k r => FGood W v ns n k ∧ AllF W v ns r
theorem flat_one (n : Nd) (k : F) : flatT (.cons n k .nil) = ownT n ++ flatT k := by simp [flatT]
set_option maxHeartbeats 2000000 in
theorem flat_good (W : World) (ns : List Nd) (bd off cap : Nat) (n : Nd) (k : F) (hN : ns.length ≤ 4000) (hat : NodesAt W (.slice (some ⟨bd, off, none⟩) ns.length cap) ns) (hb : bd < W.heap.size) (hc : Hid (CellsIn W bd off (nodeCells ns))) (hk : Hid (AllF W (.slice (some ⟨bd, off, none⟩) ns.length cap) ns k))
    (hk1 : Hid (n.kids = k.cnt)) (hk2 : Hid k.ok) (hk3 : Hid k.fine) (hn : Hid (okN n = true)) : FGood W (.slice (some ⟨bd, off, none⟩) ns.length cap) ns n k := by
  intro pre post w hns hbel
  have hlen : ns.length = pre.length + (1 + k.sz + post.length) := by rw [hns]; simp [F.flat_length]; omega
  have hi : pre.length < ns.length := by omega
  have hnode : ns.getD pre.length default = n := by rw [hns]; simp [List.getD_eq_getElem?_getD]
  obtain ⟨c0, c1, c2, c3⟩ := (hc.out.kept (hbel.block bd hb)).node pre.length hi
  rw [hnode] at c0 c1 c2 c3
  have hbw : bd < w.heap.size := Nat.lt_of_lt_of_le hb hbel.size
  have hkids : kidsI (kk ns) pre.length = startsF k (pre.length + 1) := by
    have := kids_flat n k hk1.out hk2.out pre post
    rw [← hns] at this
    exact this
  have KIDS := Lib.hid (fun (W2 : World) (hW : Below w.heap.size w W2) => ref_kids _ ns (pre.length : Int) W2 ((hat.below hbel).below hW) (by omega))
  rw [hkids] at KIDS
  have hszk : k.sz ≤ 4000 := by omega
  have hcs := F.cnt_le k
  have HLEN := Lib.hid hlen
  have HNS := Lib.hid hns
  obtain ⟨I, hI⟩ : ∃ I, I = pre.length := ⟨_, rfl⟩
  obtain ⟨M, hM⟩ : ∃ M, M = ns.length := ⟨_, rfl⟩
  rw [← hI, ← hM]
  rw [← hI] at c0 c1 c2 c3 hi KIDS
  rw [← hM] at hi hN KIDS
  have HI := Lib.hid hI
  have HM := Lib.hid hM
  have HB := Lib.hid hbel
  clear hI hM hns hlen hnode hkids hat hbel
  have hfl := flat_len k hk3.out
  have hno := hn.out
  obtain ⟨k0, t0, m0, d0⟩ := n
  simp only at c0 c1 c2 c3 hk1
  have hk1' := hk1.out
  subst hk1'
  by_cases e1 : k0 = 41
  · subst e1
    have hd : k.cnt = 0 := by
      rw [ok41] at hno
      simp at hno
      omega
    have e : flatT (.cons ⟨41, t0, m0, (k.cnt : Int)⟩ k .nil) = t0.data.toList := by
      cases k with
      | nil => rw [flat_one]; show t0.data.toList ++ [] = _; rw [List.append_nil]
      | cons _ _ _ => simp [F.cnt] at hd
    rw [e]
    clear hd e hno hfl
    go_enter Try.func15, Try.ntmps15
    go_wp2
    go_ret
    exact ⟨by rw [bs_of]; rfl, (Below.refl _ _).alloc (Nat.le_refl _) _⟩
  by_cases e2 : k0 = 42
  · subst e2
    have hd : k.cnt = 0 := by
      rw [ok42] at hno
      simp at hno
      omega
    have e : flatT (.cons ⟨42, t0, m0, (k.cnt : Int)⟩ k .nil) = [32] := by
      cases k with
      | nil => rw [flat_one]; rfl
      | cons _ _ _ => simp [F.cnt] at hd
    rw [e]
    clear hd e hno hfl e1
    go_enter Try.func15, Try.ntmps15
    go_wp2
    go_ret
    exact ⟨rfl, (Below.refl _ _).alloc (Nat.le_refl _) _⟩
  have ht := (okN_text _ hno).2 e1
  simp only at ht
  have e : flatT (.cons ⟨k0, t0, m0, (k.cnt : Int)⟩ k .nil) = flatT k := by
    rw [flat_one]
    unfold ownT
    rw [if_neg e2, ht]
    rfl
  rw [e]
  have g1 : (k0 == 41) = false := by simpa using e1
  have g2 : (k0 == 42) = false := by simpa using e2
  clear e ht hno e1 e2
  go_enter Try.func15, Try.ntmps15
  go_wp2_with fail
  refine (KIDS.out _ ?c1).mono ?_
  case c1 => exact (Below.refl _ _).alloc (Nat.le_refl _) _
  rintro e w1 ⟨kv, rfl, hkv, hb1⟩
  obtain ⟨hl1, q, kc, rfl, _, _, hq⟩ := hkv
  rw [show (ofNats (startsF k (I + 1))).length = k.cnt by simp [ofNats, startsF_length]] at hq ⊢
  have hbw1 : Below w.heap.size w w1 := ((Below.refl _ _).alloc (Nat.le_refl _) _).trans (hb1.mono (by simp))
  have HQ := Lib.hid hq
  clear hq hl1 hb1 c0 c1 c2 c3
  go_wp2_with fail
  go_loopw [6, 8] (fun t6 t8 wr => ∃ (j Q : Nat) (g : F) (pre' : List Nd) (acc : List UInt8), j + g.cnt = k.cnt ∧ t8 = .int .i64 (j : Int) ∧ t6 = .string (bs acc) ∧ (startsF k (I + 1)).drop j = startsF g Q ∧ Q = pre'.length ∧ ns = pre' ++ (g.flat ++ post) ∧ acc ++ flatT g = flatT k ∧ AllF W (.slice (some ⟨bd, off, none⟩) ns.length cap) ns g ∧ Below w1.heap.size w1 wr) (fun _ t8 _ => k.cnt - (intOf t8).toNat)
  case atStart =>
    refine ⟨0, I + 1, k, pre ++ [⟨k0, t0, m0, (k.cnt : Int)⟩], [], by omega, rfl, rfl, rfl, by rw [List.length_append, ← HI.out]; rfl, ?_, rfl, hk.out, Below.refl _ _⟩
    rw [HNS.out]
    simp
  case round =>
    obtain ⟨wo, hwo⟩ : ∃ wo : World, wo = wr := ⟨_, rfl⟩
    subst hwo
    obtain ⟨j, Q, g, pre', acc, hj, rfl, rfl, hdr, hQ, hns', hacc, hgood, hbe⟩ := hrel
    have hal : acc.length + (flatT g).length = (flatT k).length := by rw [← hacc, List.length_append]
    have hBE := Lib.hid hbe
    have hBW := Lib.hid (hbw1.trans (hbe.mono hbw1.size))
    have hsz1 := hbe.size
    clear hbe
    rcases g with _ | ⟨n1, k1, r1⟩
    · have hj' : j = k.cnt := by simpa [F.cnt] using hj
      subst hj'
      have HA := Lib.hid hacc
      clear hj hdr hQ hns' hacc hgood hal
      go_wp2
      go_ret
      refine ⟨?_, hBW.out⟩
      rw [← HA.out, show flatT F.nil = [] from rfl, List.append_nil]
      rfl
    · have hlt : j < k.cnt := by simp only [F.cnt] at hj; omega
      rw [startsF_cons] at hdr
      obtain ⟨d1, d2, d3⟩ := drop_head hdr
      obtain ⟨b2, o2, rfl, hb2, hc2⟩ := HQ.out (by omega)
      have cj := hc2.int j (by simpa [ofNats] using d1)
      rw [ofNats_get, d2] at cj
      have cj2 := (hBE.out.cell (p := ⟨b2, o2 + j, none⟩) hb2).trans cj
      have hcall := hgood.1 pre' (r1.flat ++ post) wo (by rw [hns']; simp [F.flat]) (HB.out.trans (hBW.out.mono HB.out.size))
      rw [← hQ, ← HM.out] at hcall
      have HCALL := Lib.hid hcall
      have hfe := flat_cons n1 k1 r1
      rw [hfe, List.length_append] at hal
      have hza : (bs acc).size ≤ 4000004000 := by rw [bs_size]; omega
      have hzb : (bs (flatT (.cons n1 k1 .nil))).size ≤ 4000004000 := by rw [bs_size]; omega
      obtain ⟨P, hP⟩ : ∃ P, P = flatT (.cons n1 k1 .nil) := ⟨_, rfl⟩
      rw [← hP] at HCALL hzb hfe
      have HACC : Hid ((acc ++ P) ++ flatT r1 = flatT k) := Lib.hid (by rw [List.append_assoc, ← hfe]; exact hacc)
      have HDR := Lib.hid d3
      have HQE := Lib.hid hQ
      have HNS' := Lib.hid hns'
      have HGOOD := Lib.hid hgood
      have HJ := Lib.hid hj
      clear hcall hfe hal hP hacc d1 d2 d3 hdr hQ hns' hgood hj cj
      go_wp2_with fail
      refine HCALL.out.mono ?_
      rintro e w4 ⟨rfl, b4⟩
      have B4 := Lib.hid b4
      clear b4 cj2
      go_wp2_with fail
      go_roundw
      case rel =>
        refine ⟨j + 1, Q + 1 + k1.sz, r1, pre' ++ (n1 :: k1.flat), acc ++ P, by have := HJ.out; simp only [F.cnt] at this; omega, by go_num, by rw [← bs_append], HDR.out, by rw [List.length_append, ← HQE.out]; simp [F.flat_length]; omega, by rw [HNS'.out]; simp [F.flat], HACC.out, HGOOD.out.2, hBE.out.trans (B4.out.mono hsz1)⟩
      case measure => simp [intOf]; omega
theorem all_flat (W : World) (ns : List Nd) (bd off cap : Nat) (hN : ns.length ≤ 4000) (hat : NodesAt W (.slice (some ⟨bd, off, none⟩) ns.length cap) ns) (hb : bd < W.heap.size) (hc : CellsIn W bd off (nodeCells ns)) (f : F) : f.ok → f.fine → AllF W (.slice (some ⟨bd, off, none⟩) ns.length cap) ns f := by
  induction f with
  | nil => intro _ _; trivial
  | cons n k r hk hr =>
    rintro ⟨h1, h2, h3⟩ ⟨g1, _, g3, g4⟩
    exact ⟨flat_good W ns bd off cap n k hN hat hb (Lib.hid hc) (Lib.hid (hk h2 g3)) (Lib.hid h1) (Lib.hid h2) (Lib.hid g3) (Lib.hid g1), hr h3 g4⟩
end Go.Proofs.Ytbpenjdpalhmaaa
