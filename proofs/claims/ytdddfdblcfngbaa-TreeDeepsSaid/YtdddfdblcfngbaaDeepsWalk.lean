/- The walks of the law TreeDeeps. -/
import Derived.Test.YtdddfdblcfngbaaAwake
namespace Go.Proofs.Ytdddfdblcfngbaa
open Go.RowKit Go.Proofs.TreeMath
theorem deeps_long (p : Option Addr) (n c : Nat) (i : Int) (w : World) (hn : 40 < n) : Calls Try.prog 6 #[.slice p n c, .int .i64 i] w (BRet w true) := by
  go_enter Try.func6, Try.ntmps6
  go_wp2_with fail
  refine (awake_any _).mono ?_
  rintro e w1 ⟨y, rfl, rfl, b⟩
  go_wp2_with fail
  refine (awake_any _).mono ?_
  rintro e w2 ⟨y, rfl, rfl, b2⟩
  go_wp2_with fail
  go_ret
  exact ⟨_, rfl, rfl, b.trans (b2.mono b.size)⟩
set_option maxHeartbeats 4000000 in
theorem deeps_no (p : Option Addr) (n c : Nat) (i : Int) (ns : List Nd) (w : World) (hn : n ≤ 40) (h : NodesAt w (.slice p n c) ns) (hl : Hid (ns.length = n)) (hW : Hid (wholeB (kk ns) = false)) :
    Calls Try.prog 6 #[.slice p n c, .int .i64 i] w (BRet w true) := by
  go_enter Try.func6, Try.ntmps6
  go_wp2_with fail
  refine (awake_any _).mono ?_
  rintro e w1 ⟨y, rfl, rfl, b⟩
  go_wp2_with fail
  refine (ref_whole _ ns _ (h.below b) (by rw [hl.out]; omega)).mono ?_
  rintro e w2 ⟨rfl, rfl⟩
  rw [hW.out]
  go_wp2_with fail
  refine (own_any _ ns _ (h.below b) (by rw [hl.out]; omega)).mono ?_
  rintro e w2 ⟨v2, rfl, h2, b2⟩
  replace b2 := b.trans (b2.mono b.size)
  clear b
  go_wp2_with fail
  refine (deep_not _ ns _ h2 (by rw [hl.out]; omega) hW.out).mono ?_
  rintro e w3 ⟨rfl, b3⟩
  replace b3 := b2.trans (b3.mono b2.size)
  clear b2 h2
  go_wp2_with fail
  refine (own_any _ ns _ (h.below b3) (by rw [hl.out]; omega)).mono ?_
  rintro e w4 ⟨v4, rfl, h4, b4⟩
  replace b4 := b3.trans (b4.mono b3.size)
  clear b3
  go_wp2_with fail
  refine (up_not _ ns i _ h4 (by rw [hl.out]; omega) (.inr (.inr hW.out))).mono ?_
  rintro e w5 ⟨rfl, rfl⟩
  go_wp2_with fail
  go_ret
  exact ⟨_, rfl, rfl, b4⟩
set_option maxHeartbeats 4000000 in
theorem deeps_yes (p : Option Addr) (n c D : Nat) (i : Int) (ns : List Nd) (w : World) (hn : n ≤ 40) (h : NodesAt w (.slice p n c) ns) (hl : Hid (ns.length = n)) (hW : Hid (wholeB (kk ns) = true)) (hD : Hid (deepI (kk ns) = D)) :
    Calls Try.prog 6 #[.slice p n c, .int .i64 i] w (BRet w true) := by
  go_enter Try.func6, Try.ntmps6
  go_wp2_with fail
  refine (awake_any _).mono ?_
  rintro e w1 ⟨y, rfl, rfl, b⟩
  go_wp2_with fail
  refine (ref_whole _ ns _ (h.below b) (by rw [hl.out]; omega)).mono ?_
  rintro e w2 ⟨rfl, rfl⟩
  rw [hW.out]
  go_wp2_with fail
  refine (ref_deep _ ns _ (h.below b) (by rw [hl.out]; omega) hW.out).mono ?_
  rintro e w2 ⟨y, hy, rfl, b2⟩
  obtain rfl : y = (D : Int) := by rw [hy, hD.out]
  clear hy
  replace b2 := b.trans (b2.mono b.size)
  clear b
  go_wp2_with fail
  refine (ref_up p n c i ns hl (by omega) _ (h.below b2)).mono ?_
  rintro e w3 ⟨u, hu, rfl, b3⟩
  replace b3 := b2.trans (b3.mono b2.size)
  clear b2
  have HU := Lib.hid hu
  clear hu
  go_wp2_with fail
  refine (own_any _ ns _ (h.below b3) (by rw [hl.out]; omega)).mono ?_
  rintro e w4 ⟨v4, rfl, h4, b4⟩
  replace b4 := b3.trans (b4.mono b3.size)
  clear b3
  go_wp2_with fail
  refine (deep_any _ ns _ h4 (by rw [hl.out]; omega)).mono ?_
  rintro e w5 ⟨y, hy, rfl, b5⟩
  obtain rfl : y = (D : Int) := by rw [hy, hD.out]
  clear hy h4
  replace b5 := b4.trans (b5.mono b4.size)
  clear b4
  go_wp2_with fail
  refine (own_any _ ns _ (h.below b5) (by rw [hl.out]; omega)).mono ?_
  rintro e w6 ⟨v6, rfl, h6, b6⟩
  replace b6 := b5.trans (b6.mono b5.size)
  clear b5
  go_wp2_with fail
  refine (up_whole _ ns i _ h6 (by rw [hl.out]; omega) hW.out).mono ?_
  rintro e w7 ⟨u2, hu2, rfl, b7⟩
  obtain rfl : u2 = u := upIs_uniq _ _ _ _ hu2 HU.out
  clear hu2 HU h6
  go_wp2_with fail
  go_ret
  exact ⟨_, rfl, rfl, b6.trans (b7.mono b6.size)⟩
theorem deeps_walk (v : Value) (i : Int) (ns : List Nd) (w : World) (h : NodesAt w v ns) : Calls Try.prog 6 #[v, .int .i64 i] w (BRet w true) := by
  obtain ⟨p, c, hv⟩ : ∃ p c, v = .slice p ns.length c := by obtain ⟨_, p, c, hv, _⟩ := h; exact ⟨p, c, hv⟩
  subst hv
  by_cases h40 : 40 < ns.length
  · exact deeps_long p _ c i w h40
  · cases hW : wholeB (kk ns) with
    | false => exact deeps_no p _ c i ns w (by omega) h rfl hW
    | true => exact deeps_yes p _ c _ i ns w (by omega) h rfl hW rfl
end Go.Proofs.Ytdddfdblcfngbaa
