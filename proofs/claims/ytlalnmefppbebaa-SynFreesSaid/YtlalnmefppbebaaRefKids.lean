/- The document's own answers: Kids, Sub, Make. -/
import Derived.Test.YtlalnmefppbebaaRef
namespace Go.Proofs.Ytlalnmefppbebaa
open Go.RowKit Go.Proofs.TreeMath
theorem ref_kids_not (v : Value) (ns : List Nd) (i : Int) (w : World) (h : NodesAt w v ns) (hn : ns.length ≤ 1000000) (hE : endI (kk ns) i < 0) :
    Calls Try.prog 42 #[v, .int .i64 i] w (KRet w []) := by
  obtain ⟨p, c, hv⟩ : ∃ p c, v = .slice p ns.length c := by obtain ⟨_, p, c, hv, _⟩ := h; exact ⟨p, c, hv⟩
  subst hv
  have hd := decide_eq_true hE
  clear hE
  go_enter Try.func42, Try.ntmps42
  go_wp2_with ((go_at_call 48; refine (ref_end _ ns _ _ (h.below ((Below.refl _ _).alloc (Nat.le_refl _) _)) hn).mono ?_; rintro e w' ⟨rfl, rfl⟩))
  go_ret
  exact ⟨_, rfl, ⟨rfl, _, _, rfl, Nat.le_refl _, by unfold maxLen; omega, fun h => absurd rfl h⟩, (Below.refl _ _).alloc (Nat.le_refl _) _⟩
set_option maxHeartbeats 1000000 in
theorem ref_kids_in (b off n c i K : Nat) (ns : List Nd) (w : World) (h : NodesAt w (.slice (some ⟨b, off, none⟩) n c) ns) (hl : Hid (ns.length = n)) (hn : n ≤ 1000000) (hb : b < w.heap.size) (hc : Hid (CellsIn w b off (nodeCells ns))) (hi : i < n) (hE : Hid (0 ≤ fin (kk ns) i 1)) (hK : Hid ((kk ns).getD i 0 = K)) :
    Calls Try.prog 42 #[.slice (some ⟨b, off, none⟩) n c, .int .i64 i] w (KRet w (ofNats (kidsI (kk ns) i))) := by
  obtain ⟨i0, hi1, hz0, hz1, hz2⟩ := infoInt
  have HI := Lib.hid (And.intro hi1 (And.intro hz0 (And.intro hz1 hz2)))
  clear hi1 hz0 hz1 hz2
  have hkc := hc.out.kids i (by rw [hl.out]; exact hi)
  rw [hK.out] at hkc
  have hKn : K + i + 1 ≤ n := by
    have := kid_few (kk ns) i hE.out
    rw [hK.out, length_kk, hl.out] at this
    simpa using this
  have HF : Hid (0 ≤ fin (kk ns) (i + 1) K) := Lib.hid (by
    have := fin_kids (kk ns) i hE.out
    rw [hK.out, Int.toNat_natCast] at this
    rw [← this]
    exact hE.out)
  have t0 : decide (fin (kk ns) i 1 < 0) = false := decide_eq_false (by have := hE.out; omega)
  go_enter Try.func42, Try.ntmps42
  go_wp2_with fail
  refine (ref_end _ ns _ _ (h.below ((Below.refl _ _).alloc (Nat.le_refl _) _)) (by rw [hl.out]; exact hn)).mono ?_
  rintro e w' ⟨rfl, rfl⟩
  rw [endI_nat]
  obtain ⟨E, hEE⟩ : ∃ E, E = fin (kk ns) i 1 := ⟨_, rfl⟩
  rw [← hEE] at t0 ⊢
  clear hEE
  go_wp2_with fail
  go_loopw [5, 6, 7] (fun o s q wr => ∃ (j t m : Nat) (outs : List Nat) (p : Option Addr) (cap : Nat), j ≤ K ∧ q = .int .i64 j ∧ s = .int .i64 t ∧ t ≤ n ∧ o = .slice p m cap ∧ m = outs.length ∧ m = j ∧ wr.ownsRow w.heap.size 3 1 (.slice p m cap) m (intCells (ofNats outs)) ∧ Below w.heap.size w wr ∧ 0 ≤ fin (kk ns) t (K - j) ∧ outs ++ starts (kk ns) t (K - j) = starts (kk ns) (i + 1) K) (fun _ _ q _ => K - (intOf q).toNat)
  case atStart => exact ⟨0, i + 1, 0, [], some ⟨w.heap.size, 0, none⟩, 0, Nat.zero_le _, rfl, by go_num, by omega, rfl, rfl, rfl, World.ownsRow_made w #[] 0 (Nat.le_refl _) (Nat.zero_le _) rfl, (Below.refl _ _).alloc (Nat.le_refl _) _, HF.out, rfl⟩
  case round =>
    obtain ⟨j, t, m, outs, p, cap, hj, rfl, rfl, htn, rfl, hm, rfl, hown, hbel, hf, hs⟩ := hrel
    have hck := (hbel.cell (p := ⟨b, off + i * 4 + 3, none⟩) hb).trans hkc
    have HO := Lib.hid hown
    have HM := Lib.hid hm
    have hsz := hbel.size
    clear hown hm
    by_cases hlt : m < K
    · obtain ⟨r, hr⟩ : ∃ r, K - m = r + 1 := ⟨K - m - 1, by omega⟩
      rw [hr] at hf hs
      obtain ⟨hf1, hf2⟩ := fin_first (kk ns) t r hf
      have hle := fin_len (kk ns) t 1 (by rw [length_kk, hl.out]; exact htn)
      rw [length_kk, hl.out] at hle
      obtain ⟨t', ht'⟩ : ∃ t' : Nat, fin (kk ns) t 1 = t' := ⟨(fin (kk ns) t 1).toNat, by omega⟩
      rw [ht'] at hf2 hle
      rw [Int.toNat_natCast] at hf2
      rw [hf2] at hf
      rw [starts_succ, ht', Int.toNat_natCast] at hs
      have HS := Lib.hid hs
      have HF2 := Lib.hid hf
      have HR : Hid (K - (m + 1) = r) := Lib.hid (by omega)
      have HT := Lib.hid ht'
      clear hs hf hf1 hf2 hr ht'
      go_wp2_with (first
        | (at_builtin; refine wpList_append_own _ rfl _ _ 62 rfl w.heap.size 3 i0 (.int .i64 0) 1 8 Try.underlying62 HI.out.1 HI.out.2.1 HI.out.2.2.1 HI.out.2.2.2 rfl (by decide) (.slice p m cap) m (intCells (ofNats outs)) rfl (HO.out.alloc _) ⟨wr.heap.size, 0, none⟩ 1 1 [.int .i64 t] rfl rfl (cell_one_new _ _ _) (fun x hx => by simp at hx; subst hx; rfl) (by unfold maxLen; omega) (by omega) (by simp; omega) ?_; intro v' w3 hown' hgrow hnil; obtain ⟨g3, c3, hv3, hg3, hg4⟩ := owns_slice hown' (by omega); subst hv3; have HO3 := Lib.hid hown'; have hbel3 : Below w.heap.size w w3 := (hbel.alloc hsz _).grown hgrow (by simp; omega) (fun q hq => (HO.out.lt q hq).1); clear hown' hgrow hnil)
        | (go_at_call 48; refine (ref_end _ ns _ _ (h.below hbel3) (by rw [hl.out]; exact hn)).mono ?_; rw [endI_nat, HT.out]; rintro e w' ⟨rfl, rfl⟩))
      go_roundw
      case rel => exact ⟨m + 1, t', m + 1, outs ++ [t], _, _, by omega, by go_num, rfl, by omega, rfl, by rw [List.length_append, HM.out]; rfl, rfl, by have := HO3.out; simpa [intCells, ofNats] using this, hbel3, by rw [HR.out]; exact HF2.out, by rw [HR.out, ← HS.out]; simp⟩
      case measure => simp [intOf]; omega
    · obtain rfl : m = K := by omega
      have HS := Lib.hid hs
      clear hs hf
      go_wp2
      go_ret
      refine ⟨_, rfl, ?_, hbel⟩
      have e : kidsI (kk ns) i = outs := by
        have := HS.out
        rw [Nat.sub_self] at this
        unfold kidsI
        rw [endI_nat, if_neg (by have := hE.out; omega), Int.toNat_natCast, hK.out, Int.toNat_natCast, ← this]
        simp [starts]
      rw [e]
      have := SliceAt.of_owns HO.out
      rw [HM.out] at this
      simpa [IntsAt, ofNats, HM.out] using this
theorem ref_kids (v : Value) (ns : List Nd) (i : Int) (w : World) (h : NodesAt w v ns) (hn : ns.length ≤ 1000000) : Calls Try.prog 42 #[v, .int .i64 i] w (KRet w (ofNats (kidsI (kk ns) i))) := by
  by_cases hE : endI (kk ns) i < 0
  · have : kidsI (kk ns) i = [] := by unfold kidsI; rw [if_pos hE]
    rw [this]
    exact ref_kids_not v ns i w h hn hE
  · rcases endI_range (kk ns) i with h0 | ⟨h1, h2, h3⟩
    · omega
    · rw [length_kk] at h3
      obtain ⟨m, rfl⟩ : ∃ m : Nat, i = m := ⟨i.toNat, by omega⟩
      obtain ⟨b, off, c, rfl, _, _, hb, hc⟩ := nodes_slice h (by omega)
      rw [endI_nat] at hE
      have hk := kid_nonneg (kk ns) m (by omega)
      exact ref_kids_in b off ns.length c m ((kk ns).getD m 0).toNat ns w h rfl hn hb hc (by omega) (Lib.hid (by omega)) (Lib.hid (by omega))
end Go.Proofs.Ytlalnmefppbebaa
