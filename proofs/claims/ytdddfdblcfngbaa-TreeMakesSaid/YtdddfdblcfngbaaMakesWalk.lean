/- The walks of the law TreeMakes. -/
import Derived.Test.YtdddfdblcfngbaaAwake
import Derived.Deep.RegionWith
namespace Go.Proofs.Ytdddfdblcfngbaa
open Go.RowKit Go.Proofs.TreeMath
theorem kk_make (x : Nd) (Ls : List (List Nd)) : kk (makeN x Ls) = ((Ls.map kk).length : Int) :: (Ls.map kk).flatten := by
  unfold makeN kk
  simp [List.map_flatten]
theorem make_whole (x : Nd) (Ls : List (List Nd)) (h : ∀ t ∈ Ls, wholeB (kk t) = true) : wholeB (kk (makeN x Ls)) = true ∧ kidsI (kk (makeN x Ls)) 0 = offs 1 Ls := by
  have h1 := whole_make (Ls.map kk) (by
    intro t ht
    obtain ⟨l, hl, rfl⟩ := List.mem_map.1 ht
    exact h l hl)
  rw [kk_make]
  refine ⟨h1.1, h1.2.trans ?_⟩
  exact offs_map Nd.kids Ls 1
theorem make_sub (x : Nd) (Ls : List (List Nd)) (h : ∀ t ∈ Ls, wholeB (kk t) = true) (i : Nat) (hi : i < Ls.length) (s : Nat) (hs : s = (offs 1 Ls).getD i 0) :
    subL (makeN x Ls) s = Ls.getD i [] ∧ subE (makeN x Ls) s = 0 := by
  have h1 := offs_get (Ls.map kk) [((Ls.map kk).length : Int)] [] i (by simpa using hi)
  have ho : offs 1 (Ls.map kk) = offs 1 Ls := offs_map Nd.kids Ls 1
  obtain ⟨_, A, B, hAB, hA⟩ := h1
  rw [List.append_nil, List.singleton_append, ← kk_make x Ls] at hAB
  rw [List.length_singleton, ho, ← hs] at hA
  have hg : (Ls.map kk).getD i [] = kk (Ls.getD i []) := by
    simp only [List.getD_eq_getElem?_getD, List.getElem?_map]
    cases Ls[i]? <;> rfl
  rw [hg] at hAB
  have hw : wholeB (kk (Ls.getD i [])) = true := by
    refine h _ ?_
    rw [List.getD_eq_getElem?_getD, List.getElem?_eq_getElem hi]
    exact List.getElem_mem hi
  have hE : endI (kk (makeN x Ls)) s = ((s + (Ls.getD i []).length : Nat) : Int) := by
    rw [endI_nat, hAB, ← hA, fin_tree A _ B hw, length_kk]
  have h2 := (offs_get Ls [{ x with kids := (Ls.length : Int) }] [] i hi).1
  rw [List.append_nil, List.singleton_append, List.length_singleton, ← hs] at h2
  unfold subL subE subN
  rw [hE, if_neg (by omega), if_neg (by omega), Int.toNat_natCast, Int.toNat_natCast, Nat.add_sub_cancel_left]
  exact ⟨h2, rfl⟩
theorem lists_form {w : World} {v : Value} {Ls : List (List Nd)} (h : ListsAt w v Ls) : ∃ p c, v = .slice p Ls.length c ∧ (0 < Ls.length → ∃ b off, p = some ⟨b, off, none⟩ ∧ b < w.heap.size ∧ Lists w b off Ls) := by
  obtain ⟨vs, ⟨hl, p, c, rfl, _, _, h4⟩, hv⟩ := h
  refine ⟨p, c, rfl, fun h0 => ?_⟩
  obtain ⟨b, off, rfl, hb, hc⟩ := h4 (by omega)
  refine ⟨b, off, rfl, hb, fun i hi => ⟨vs.getD i default, hc i _ ?_, hv i hi⟩⟩
  rw [List.getD_eq_getElem?_getD, List.getElem?_eq_getElem (by omega)]
  rfl
theorem makes_long (k m s : Int) (t : ByteArray) (p : Option Addr) (n c : Nat) (w : World) (hn : 8 < n) : Calls Try.prog 4 #[.agg #[.int .i64 k, .string t, .int .i64 m, .int .i64 s], .slice p n c] w (BRet w true) := by
  go_enter Try.func4, Try.ntmps4
  go_wp2_with fail
  refine (awake_any _).mono ?_
  rintro e w1 ⟨y, rfl, rfl, b⟩
  go_wp2_with fail
  refine (awake_any _).mono ?_
  rintro e w2 ⟨y, rfl, rfl, b2⟩
  go_wp2_with fail
  go_ret
  refine ⟨_, rfl, rfl, ?_⟩
  have b0 : Below w.heap.size w (w.alloc (.cells #[.int .i64 k, .string t, .int .i64 m, .int .i64 s] 37)) := (Below.refl _ _).alloc (Nat.le_refl _) _
  exact b0.trans ((b.trans (b2.mono b.size)).mono b0.size)
def allW (Ls : List (List Nd)) (j : Nat) : Bool := (Ls.take j).all fun l => wholeB (kk l)
theorem allW_succ (Ls : List (List Nd)) (j : Nat) (h : j < Ls.length) : allW Ls (j + 1) = (allW Ls j && wholeB (kk (Ls.getD j []))) := by
  unfold allW
  rw [List.take_succ_eq_append_getElem h, List.all_append, List.getD_eq_getElem?_getD, List.getElem?_eq_getElem h]
  simp
theorem flat_few (Ls : List (List Nd)) (h : ∀ j, j < Ls.length → (Ls.getD j []).length ≤ 20) : Ls.flatten.length ≤ 20 * Ls.length := by
  have : ∀ k, k ≤ Ls.length → sumTo Ls k ≤ 20 * k := by
    intro k
    induction k with
    | zero => intro _; simp [sumTo]
    | succ k ih =>
      intro hk
      rw [sumTo_succ Ls k (by omega)]
      have := h k (by omega)
      have := ih (by omega)
      omega
  have h2 := this Ls.length (Nat.le_refl _)
  rwa [sumTo_all] at h2
theorem box_cells {w : World} {b : Nat} {k m s : Int} {t : ByteArray} (h : w.heap[b]? = some (.cells #[.int .i64 k, .string t, .int .i64 m, .int .i64 s] 37 (0, 0))) :
    w.cell? ⟨b, 0, none⟩ = some (.int .i64 k) ∧ w.cell? ⟨b, 1, none⟩ = some (.string t) ∧ w.cell? ⟨b, 2, none⟩ = some (.int .i64 m) ∧ w.cell? ⟨b, 3, none⟩ = some (.int .i64 s) := by
  refine ⟨?_, ?_, ?_, ?_⟩ <;> simp [World.cell?, h]
set_option maxHeartbeats 8000000 in
theorem makes_walk1 (k m s : Int) (t : ByteArray) (p : Option Addr) (n c : Nat) (Ls : List (List Nd)) (w : World) (hn : n ≤ 8) (h : ListsAt w (.slice p n c) Ls) (hl : Hid (Ls.length = n)) (hp : Hid (0 < n → ∃ b off, p = some ⟨b, off, none⟩ ∧ b < w.heap.size ∧ Lists w b off Ls)) :
    Calls Try.prog 4 #[.agg #[.int .i64 k, .string t, .int .i64 m, .int .i64 s], .slice p n c] w (BRet w true) := by
  have b0 : Below w.heap.size w (w.alloc (.cells #[.int .i64 k, .string t, .int .i64 m, .int .i64 s] 37)) := (Below.refl _ _).alloc (Nat.le_refl _) _
  have hbox := (alloc_at w (.cells #[.int .i64 k, .string t, .int .i64 m, .int .i64 s] 37))
  have HBox := Lib.hid hbox
  clear hbox
  go_enter Try.func4, Try.ntmps4
  go_wp2_with fail
  refine (awake_any _).mono ?_
  rintro e w1 ⟨y, rfl, rfl, b⟩
  have H1 : Hid (w1.heap[w.heap.size]? = some (.cells #[.int .i64 k, .string t, .int .i64 m, .int .i64 s] 37 (0, 0))) := Lib.hid ((b.block _ (by simp)).trans HBox.out)
  have hw1 : w.heap.size < w1.heap.size := by have := b.size; simp at this; omega
  replace b := b0.trans (b.mono b0.size)
  clear b0 HBox
  go_wp2_with fail
  go_loopw [5, 6] (fun q i wr => ∃ j : Nat, j ≤ n ∧ i = .int .i64 j ∧ q = .bool (allW Ls j) ∧ Below w.heap.size w wr ∧ Below w1.heap.size w1 wr ∧ ∀ a, a < j → (Ls.getD a []).length ≤ 20) (fun _ i _ => n - (intOf i).toNat)
  case atStart => exact ⟨0, Nat.zero_le _, rfl, rfl, b, Below.refl _ _, fun a ha => by omega⟩
  case round =>
    obtain ⟨j, hj, rfl, rfl, hbel, hb1, hfew⟩ := hrel
    have HF := Lib.hid hfew
    clear hfew
    by_cases hlt : j < n
    · obtain ⟨bb, oo, rfl, hbb, hLs⟩ := hp.out (by omega)
      obtain ⟨q, x, cp, hcell, hx, hnode⟩ := (hLs.below hbel hbb).one j (by rw [hl.out]; exact hlt)
      have hA := allW_succ Ls j (by rw [hl.out]; exact hlt)
      have HX := Lib.hid hx
      have HA := Lib.hid hA
      clear hA hx
      by_cases h20 : 20 < x
      · go_wp2_with fail
        go_ret
        exact ⟨_, rfl, rfl, hbel⟩
      · have hf2 : ∀ a, a < j + 1 → (Ls.getD a []).length ≤ 20 := by
          intro a ha
          rcases Nat.lt_or_ge a j with h8 | h8
          · exact HF.out a h8
          · rw [show a = j by omega, ← HX.out]
            omega
        have HF2 := Lib.hid hf2
        clear hf2
        cases hq : allW Ls j with
        | false =>
          have HQ := Lib.hid hq
          clear hq
          go_wp2_with fail
          go_roundw
          case rel => exact ⟨j + 1, by omega, by go_num, by rw [HA.out, HQ.out]; rfl, hbel, hb1, HF2.out⟩
          case measure => simp [intOf]; omega
        | true =>
          have HQ := Lib.hid hq
          clear hq
          go_wp2_with fail
          refine (own_any _ _ _ hnode (by rw [← HX.out]; omega)).mono ?_
          rintro e w4 ⟨v4, rfl, h4, b4⟩
          go_wp2_with fail
          refine (whole_any _ _ _ h4 (by rw [← HX.out]; omega)).mono ?_
          rintro e w5 ⟨rfl, rfl⟩
          clear h4
          go_wp2_with fail
          go_roundw
          case rel => exact ⟨j + 1, by omega, by go_num, by rw [HA.out, HQ.out]; rfl, hbel.trans (b4.mono hbel.size), hb1.trans (b4.mono hb1.size), HF2.out⟩
          case measure => simp [intOf]; omega
    · obtain rfl : j = n := by omega
      have hbox := (hb1.block w.heap.size hw1).trans H1.out
      obtain ⟨x0, x1, x2, x3⟩ := box_cells hbox
      have HBox := Lib.hid hbox
      have hsum : sumLen Ls := ⟨by rw [hl.out]; omega, Nat.le_trans (flat_few Ls fun a ha => HF.out a (by rw [hl.out] at ha; exact ha)) (by rw [hl.out]; omega)⟩
      have hsm2 : (makeN ⟨k, t, m, s⟩ Ls).length ≤ 1000000 := by
        unfold makeN
        have := hsum.2
        simp only [List.length_cons]
        omega
      have hwr : w.heap.size < wr.heap.size := Nat.lt_of_lt_of_le hw1 hb1.size
      clear hbox
      go_wp2_with fail
      refine (make_any ⟨k, t, m, s⟩ _ Ls _ (h.below hbel) hsum).mono ?_
      rintro e w4 ⟨v4, rfl, h4, b4⟩
      have hbox := (b4.block w.heap.size hwr).trans HBox.out
      obtain ⟨y0, y1, y2, y3⟩ := box_cells hbox
      replace b4 := hbel.trans (b4.mono hbel.size)
      clear hbox x0 x1 x2 x3
      go_wp2_with fail
      refine (ref_make ⟨k, t, m, s⟩ _ Ls _ (h.below b4) hsum).mono ?_
      rintro e w5 ⟨v5, rfl, h5, b5⟩
      replace h4 := h4.below b5
      replace b5 := b4.trans (b5.mono b4.size)
      clear b4 y0 y1 y2 y3
      go_wp2_with fail
      refine (same_any _ _ _ _ _ h4 h5 hsm2).mono ?_
      rintro e w6 ⟨y, hy, rfl, b6⟩
      obtain rfl : y = true := by simpa using hy
      replace h4 := h4.below b6
      replace b6 := b5.trans (b6.mono b5.size)
      clear b5 h5 hy
      cases hW : allW Ls j with
      | false =>
        clear hW
        go_wp2_with fail
        go_ret
        exact ⟨_, rfl, rfl, b6⟩
      | true =>
        have hall : ∀ l ∈ Ls, wholeB (kk l) = true := by
          unfold allW at hW
          rw [List.take_of_length_le (by rw [hl.out]; exact Nat.le_refl _)] at hW
          exact fun l hl' => by simpa using List.all_eq_true.1 hW l hl'
        obtain ⟨hw1', hk1⟩ := make_whole ⟨k, t, m, s⟩ Ls hall
        have HW := Lib.hid hw1'
        have HK := Lib.hid hk1
        have HAll := Lib.hid hall
        clear hW hw1' hk1 hall
        go_wp2_with fail
        refine (own_any _ _ _ h4 hsm2).mono ?_
        rintro e w7 ⟨v7, rfl, h7, b7⟩
        replace h4 := h4.below b7
        replace b7 := b6.trans (b7.mono b6.size)
        clear b6
        go_wp2_with fail
        refine (whole_any _ _ _ h7 hsm2).mono ?_
        rintro e w8 ⟨rfl, rfl⟩
        rw [HW.out]
        clear h7
        go_wp2_with fail
        refine (own_any _ _ _ h4 hsm2).mono ?_
        rintro e w8 ⟨v8, rfl, h8, b8⟩
        replace h4 := h4.below b8
        replace b8 := b7.trans (b8.mono b7.size)
        clear b7
        go_wp2_with fail
        refine (kids_any _ _ 0 _ h8 hsm2).mono ?_
        rintro e w9 ⟨v9, rfl, h9, b9⟩
        replace h4 := h4.below b9
        replace b9 := b8.trans (b9.mono b8.size)
        clear b8 h8
        rw [HK.out] at h9
        obtain ⟨q, cq, hvq, hcell⟩ := ints_one h9
        have hol : (ofNats (offs 1 Ls)).length = j := by
          unfold ofNats
          rw [List.length_map, offs_length, hl.out]
        rw [hol] at hvq hcell
        subst hvq
        have HC := Lib.hid hcell
        clear hcell h9 hol
        go_wp2_with fail
        go_loopw [9] (fun i wr2 => ∃ a : Nat, a ≤ j ∧ i = .int .i64 a ∧ Below w.heap.size w wr2 ∧ Below w9.heap.size w9 wr2) (fun i _ => j - (intOf i).toNat)
        case atStart => exact ⟨0, Nat.zero_le _, rfl, b9, Below.refl _ _⟩
        case round =>
          obtain ⟨a, ha, rfl, hbw, hb9⟩ := hrel
          by_cases hlt2 : a < j
          · obtain ⟨b2', off2, rfl, hb2, hc2⟩ := HC.out a hlt2
            obtain ⟨bb, oo, rfl, hbb, hLs⟩ := hp.out (by omega)
            have hol : (offs 1 Ls).length = j := by rw [offs_length, hl.out]
            obtain ⟨so, hso⟩ : ∃ so, so = (offs 1 Ls).getD a 0 := ⟨_, rfl⟩
            have he : (ofNats (offs 1 Ls)).getD a 0 = (so : Int) := by
              rw [hso]
              simp [ofNats, List.getD_eq_getElem?_getD, List.getElem?_eq_getElem (show a < (offs 1 Ls).length by omega)]
            rw [he] at hc2
            have hc3 := (hb9.cell (p := ⟨b2', off2 + a, none⟩) hb2).trans hc2
            obtain ⟨hsL, hsE⟩ := make_sub ⟨k, t, m, s⟩ Ls HAll.out a (by rw [hl.out]; exact hlt2) so hso
            have hblk : b2' < wr.heap.size := Nat.lt_of_lt_of_le hb2 hb9.size
            have h4r := h4.below hb9
            have hlr := hLs.below hbw hbb
            have HSL := Lib.hid hsL
            have HSE := Lib.hid hsE
            have HLR := Lib.hid hlr
            clear hc2 he hol hso hsL hsE hlr hLs
            go_wp2_with fail
            go_region_with (first
              | (go_at_call 12; refine (own_any _ _ _ ?_ hsm2).mono ?_; exact h4r.below (Below.refl _ _).drew; rintro e w10 ⟨v10, rfl, h10, b10⟩; have c10 : w10.cell? ⟨b2', off2 + a, none⟩ = some (.int .i64 so) := (b10.cell (p := ⟨b2', off2 + a, none⟩) hblk).trans hc3)
              | (go_at_call 11; refine (sub_any _ _ _ _ h10 hsm2).mono ?_; rw [HSL.out, HSE.out]; rintro e w11 ⟨v11, rfl, h11, b11⟩))
            all_goals
              have bs : Below wr.heap.size wr w11 := ((Below.refl _ wr).drew.trans b10).trans (b11.mono b10.size)
              obtain ⟨q2, xx, cp, hcell2, hx2, hnode2⟩ := (HLR.out.below bs (Nat.lt_of_lt_of_le hbb hbw.size)).one a (by rw [hl.out]; exact hlt2)
              have HX2 := Lib.hid hx2
              clear c10 h10 b10 b11 hx2
              go_wp2_with fail
              refine (same_any _ _ _ _ _ h11 hnode2 (Nat.le_trans (HF.out a hlt2) (by omega))).mono ?_
              rintro e w12 ⟨y, hy, rfl, b12⟩
              obtain rfl : y = true := by simpa using hy
              clear hy h11
              go_wp2_with fail
              go_roundw
              case rel => exact ⟨a + 1, by omega, by go_num, hbw.trans ((bs.trans (b12.mono bs.size)).mono hbw.size), hb9.trans ((bs.trans (b12.mono bs.size)).mono hb9.size)⟩
              case measure => simp [intOf]; omega
          · obtain rfl : a = j := by omega
            go_wp2_with fail
            go_ret
            exact ⟨_, rfl, rfl, hbw⟩
theorem makes_walk (x : Nd) (v : Value) (Ls : List (List Nd)) (w : World) (h : ListsAt w v Ls) : Calls Try.prog 4 #[x.val, v] w (BRet w true) := by
  obtain ⟨k, t, m, s⟩ := x
  obtain ⟨p, c, hv, hp⟩ := lists_form h
  subst hv
  by_cases h8 : 8 < Ls.length
  · exact makes_long k m s t p _ c w h8
  · exact makes_walk1 k m s t p _ c Ls w (by omega) h rfl hp
end Go.Proofs.Ytdddfdblcfngbaa
