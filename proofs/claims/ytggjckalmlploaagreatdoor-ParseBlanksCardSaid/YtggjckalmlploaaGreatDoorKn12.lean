/- Texts of this seat, one behind the other: LxSkip, LxEscape. -/
import Derived.Test.YtggjckalmlploaaGreatDoorKn11
import Derived.Deep.QuietTactic
import Derived.BigQuiet
/- The contract of skip: blanks and comments are passed over. -/
set_option maxRecDepth 100000
namespace Go.Proofs.YtggjckalmlploaaGreatDoor.Lx
open Go.RowKit Go.Proofs.LexMath

theorem nl1_any (r : Int) (w : World) : Calls Tryz.prog 46 #[.int .i32 r] w fun e w' => e = .returned (.bool (nl r)) ∧ w = w' := by
  go_enter Tryz.func46, Tryz.ntmps46
  go_wp2
  go_ret
  exact ⟨rfl, rfl⟩
theorem nl_cls (w : World) : Cls w (.func (.func 46) #[] #[]) nl :=
  ⟨46, #[], rfl, call45, fun r W _ => (nl1_any r W).mono fun _ _ ⟨he, hw⟩ => ⟨he, hw ▸ Below.refl _ _⟩⟩
theorem nl_wide : Wide nl := .inl fun r hr => by simp [nl]; omega
/-- What holds at each jump back. -/
inductive SJump (s : ByteArray) (W : World) (n : Nat) : Act → World → Prop
  | mk (m : Nat) (u2 u3 u5 u6 u7 u8 u9 u10 u11 u12 u13 u14 u15 u16 u17 u18 u19 u20 u21 u22 u23 : Value) (w : World) (hm : m ≤ s.size) (hb : Below W.heap.size W w) (hn : m + skp false (s.data.toList.drop m) = n) :
    SJump s W n { tmps := #[.string s, .int .i64 m, u2, u3, .int .i64 0, u5, u6, u7, u8, u9, u10, u11, u12, u13, u14, u15, u16, u17, u18, u19, u20, u21, u22, u23], defers := [] } w
theorem skp_at (s : ByteArray) (m : Nat) (h : m < s.size) :
    ((iv s[m] = 32 ∨ iv s[m] = 10) → m + skp false (s.data.toList.drop m) = m + 1 + skp false (s.data.toList.drop (m + 1))) ∧
    (iv s[m] = 35 → m + skp false (s.data.toList.drop m) = m + run nl (s.data.toList.drop m) + skp false (s.data.toList.drop (m + run nl (s.data.toList.drop m))) ∧ 1 ≤ run nl (s.data.toList.drop m)) ∧
    (¬ (iv s[m] = 32 ∨ iv s[m] = 10) → ¬ iv s[m] = 35 → skp false (s.data.toList.drop m) = 0) := by
  have e := drop_at s m h
  generalize s[m] = c at *
  have e2 : s.data.toList.drop (m + run nl (s.data.toList.drop m)) = (s.data.toList.drop m).drop (run nl (s.data.toList.drop m)) := by rw [List.drop_drop]
  rw [e2, e]
  generalize s.data.toList.drop (m + 1) = r at *
  refine ⟨fun h => ?_, fun h => ?_, fun h1 h2 => ?_⟩
  · simp only [skp, h, if_true]; omega
  · have h1 : skp false (c :: r) = skp true r + 1 := by simp [skp, h]
    have h2 := run_yes nl c r (by simp [nl, h])
    rw [h1, h2, List.drop_succ_cons, skp_comment]
    omega
  · simp [skp, h1, h2]
theorem test_iv {a : Int} {c : UInt8} (h : iv c = a) : ((c.toNat : Int) == a) = true := by simpa [iv] using h
theorem test_iv' {a : Int} {c : UInt8} (h : ¬ iv c = a) : ((c.toNat : Int) == a) = false := by simpa [iv] using h
set_option maxHeartbeats 1000000 in
theorem skip_any (s : ByteArray) (at_ : Nat) (w : World) (hat : at_ ≤ s.size) (hs : s.size ≤ 1000000000) :
    Calls Tryz.prog 24 #[.string s, .int .i64 at_] w fun e w' => e = .returned (.int .i64 ((at_ + skp false (s.data.toList.drop at_) : Nat) : Int)) ∧ Below w.heap.size w w' := by
  have AT := Lib.hid (skp_at s)
  obtain ⟨n, hn⟩ : ∃ n, at_ + skp false (s.data.toList.drop at_) = n := ⟨_, rfl⟩
  rw [hn]
  have HN := Lib.hid hn
  clear hn
  go_enter Tryz.func24, Tryz.ntmps24
  go_wp2
  refine wp_scope_jumps 0 (SJump s w n) (fun a' _ => s.size - (intOf (a'.tmps.getD 1 undef)).toNat) rfl ?_ ?_
  · by_cases h1 : at_ < s.size
    · have A := Lib.hid (AT.out at_ h1)
      have t0 : ((at_ : Int) == (s.size : Int)) = false := by simp; omega
      have hb : (s[at_].toNat : Int) ≤ 255 := by have := s[at_].toNat_lt; omega
      by_cases h2 : iv s[at_] = 32
      · have t := test_iv h2
        have E := Lib.hid (A.out.1 (.inl h2))
        clear h2
        go_wp2
        go_step3
        go_wp2
        go_step3
        exact ⟨rfl, .mk (at_ + 1) _ _ _ _ _ _ _ _ _ _ _ _ _ _ _ _ _ _ _ _ _ _ (by omega) (Below.refl _ _) (by rw [← E.out]; exact HN.out)⟩
      · by_cases h3 : iv s[at_] = 10
        · have t := test_iv h3
          have t' := test_iv' h2
          have E := Lib.hid (A.out.1 (.inr h3))
          clear h2 h3
          go_wp2
          go_step3
          go_wp2
          go_step3
          exact ⟨rfl, .mk (at_ + 1) _ _ _ _ _ _ _ _ _ _ _ _ _ _ _ _ _ _ _ _ _ _ (by omega) (Below.refl _ _) (by rw [← E.out]; exact HN.out)⟩
        · have t := test_iv' h2
          have t' := test_iv' h3
          by_cases h4 : iv s[at_] = 35
          · have t2 := test_iv h4
            have E := Lib.hid (A.out.2.1 h4)
            have hrl := run_le nl (s.data.toList.drop at_)
            rw [List.length_drop] at hrl
            have hrl' : at_ + run nl (s.data.toList.drop at_) ≤ s.size := by have : s.data.toList.length = s.size := rfl; omega
            clear h2 h3 h4 hrl
            have S := fun W => span_any s at_ _ nl W (by omega) hs nl_wide (nl_cls W)
            have hk1 := E.out.2
            generalize hk : run nl (s.data.toList.drop at_) = k at *
            have HK := Lib.hid hk
            have HS := Lib.hid S
            clear hk S
            go_wp2
            go_step3
            go_wp2_with (go_at_call 45; refine (HS.out _).mono ?_; rintro e w1 ⟨rfl, b1⟩)
            go_step3
            exact ⟨rfl, .mk (at_ + k) _ _ _ _ _ _ _ _ _ _ _ _ _ _ _ _ _ _ _ _ _ _ (by omega) (b1) (by rw [← E.out.1]; exact HN.out)⟩
          · have t2 := test_iv' h4
            have E := Lib.hid (A.out.2.2 (by omega) h4)
            clear h2 h3 h4
            go_wp2
            go_step3
            go_wp2
            try simp only [Exit.jump]
            go_ret
            exact ⟨ret_int (by rw [← HN.out, E.out]; rfl), (Below.refl _ _)⟩
    · have t0 : ((at_ : Int) == (s.size : Int)) = true := by simp; omega
      have E : Hid (skp false (s.data.toList.drop at_) = 0) := by
        rw [List.drop_eq_nil_of_le (by show s.data.size ≤ _; have : s.size = s.data.size := rfl; omega)]; rfl
      go_wp2
      go_step3
      go_wp2
      try simp only [Exit.jump]
      go_ret
      exact ⟨ret_int (by rw [← HN.out, E.out]; rfl), (Below.refl _ _)⟩
  · intro a' w' hJ
    rcases hJ with @⟨m, u2, u3, u5, u6, u7, u8, u9, u10, u11, u12, u13, u14, u15, u16, u17, u18, u19, u20, u21, u22, u23, _, hm, hb, hn⟩
    have HB := Lib.hid hb
    have HN := Lib.hid hn
    clear hb hn
    by_cases h1 : m < s.size
    · have A := Lib.hid (AT.out m h1)
      have t0 : ((m : Int) == (s.size : Int)) = false := by simp; omega
      have hb : (s[m].toNat : Int) ≤ 255 := by have := s[m].toNat_lt; omega
      by_cases h2 : iv s[m] = 32
      · have t := test_iv h2
        have E := Lib.hid (A.out.1 (.inl h2))
        clear h2
        go_wp2
        go_step3
        exact ⟨rfl, .mk (m + 1) _ _ _ _ _ _ _ _ _ _ _ _ _ _ _ _ _ _ _ _ _ _ (by omega) HB.out (by rw [← E.out]; exact HN.out), by simp [intOf]; omega⟩
      · by_cases h3 : iv s[m] = 10
        · have t := test_iv h3
          have t' := test_iv' h2
          have E := Lib.hid (A.out.1 (.inr h3))
          clear h2 h3
          go_wp2
          go_step3
          exact ⟨rfl, .mk (m + 1) _ _ _ _ _ _ _ _ _ _ _ _ _ _ _ _ _ _ _ _ _ _ (by omega) HB.out (by rw [← E.out]; exact HN.out), by simp [intOf]; omega⟩
        · have t := test_iv' h2
          have t' := test_iv' h3
          by_cases h4 : iv s[m] = 35
          · have t2 := test_iv h4
            have E := Lib.hid (A.out.2.1 h4)
            have hrl := run_le nl (s.data.toList.drop m)
            rw [List.length_drop] at hrl
            have hrl' : m + run nl (s.data.toList.drop m) ≤ s.size := by have : s.data.toList.length = s.size := rfl; omega
            clear h2 h3 h4 hrl
            have S := fun W => span_any s m _ nl W (by omega) hs nl_wide (nl_cls W)
            have hk1 := E.out.2
            generalize hk : run nl (s.data.toList.drop m) = k at *
            have HK := Lib.hid hk
            have HS := Lib.hid S
            clear hk S
            go_wp2_with (go_at_call 45; refine (HS.out _).mono ?_; rintro e w1 ⟨rfl, b1⟩)
            go_step3
            exact ⟨rfl, .mk (m + k) _ _ _ _ _ _ _ _ _ _ _ _ _ _ _ _ _ _ _ _ _ _ (by omega) (HB.out.trans (b1.mono HB.out.size)) (by rw [← E.out.1]; exact HN.out), by simp [intOf]; omega⟩
          · have t2 := test_iv' h4
            have E := Lib.hid (A.out.2.2 (by omega) h4)
            clear h2 h3 h4
            go_wp2
            try simp only [Exit.jump]
            go_ret
            exact ⟨ret_int (by rw [← HN.out, E.out]; rfl), HB.out⟩
    · have t0 : ((m : Int) == (s.size : Int)) = true := by simp; omega
      have E : Hid (skp false (s.data.toList.drop m) = 0) := by
        rw [List.drop_eq_nil_of_le (by show s.data.size ≤ _; have : s.size = s.data.size := rfl; omega)]; rfl
      go_wp2
      try simp only [Exit.jump]
      go_ret
      exact ⟨ret_int (by rw [← HN.out, E.out]; rfl), HB.out⟩
end Go.Proofs.YtggjckalmlploaaGreatDoor.Lx
/- The contracts of escape and character: the byte for which the head of a text stands in a string. -/
namespace Go.Proofs.YtggjckalmlploaaGreatDoor.Lx
open Go.RowKit Go.Proofs.LexMath

def chrV : Option (UInt8 × Nat) → Int × Int
  | none => (0, 0)
  | some (c, n) => (iv c, n)
def CRes (x : Int × Int) (W : World) (e : Ending) (w' : World) : Prop := e = .returned (.tuple #[.int .u8 x.1, .int .i64 x.2]) ∧ Below W.heap.size W w'
theorem or_hex : ∀ a b : Fin 16, bits .or .u8 (16 * (a.val : Int)) (b.val : Int) = 16 * (a.val : Int) + (b.val : Int) := by decide
theorem chr_short (s : ByteArray) (h : 0 < s.size) (h0 : iv s[0] = 92) (h1 : ¬ 1 < s.size) : chr s.data.toList = none := by
  have e := drop_at s 0 h
  rw [List.drop_zero] at e
  have e1 : s.data.toList.drop (0 + 1) = [] := List.drop_eq_nil_of_le (by show s.data.size ≤ _; have : s.size = s.data.size := rfl; omega)
  rw [e, e1]
  simp [chr, h0]
theorem chr_esc (s : ByteArray) (h : 1 < s.size) (h0 : iv s[0] = 92) : chr s.data.toList = chr (92 :: s[1] :: s.data.toList.drop 2) := by
  have e := drop_at s 0 (by omega)
  have e1 := drop_at s 1 h
  rw [List.drop_zero] at e
  rw [show (0 : Nat) + 1 = 1 from rfl] at e
  rw [show (1 : Nat) + 1 = 2 from rfl] at e1
  have : s[0] = 92 := iv_inj h0
  rw [this, e1] at e
  exact congrArg chr e
theorem chr_hex (s : ByteArray) (h : 3 < s.size) (h0 : iv s[0] = 92) (h1 : iv s[1] = 120) :
    chrV (chr s.data.toList) = if (0 : Int) ≤ hexv (iv s[2]) ∧ (0 : Int) ≤ hexv (iv s[3]) then ((16 : Int) * hexv (iv s[2]) + hexv (iv s[3]), (4 : Int)) else ((0 : Int), (0 : Int)) := by
  have e2 := drop_at s 2 (by omega)
  have e3 := drop_at s 3 (by omega)
  rw [show (2 : Nat) + 1 = 3 from rfl] at e2
  rw [chr_esc s (by omega) h0, e2, e3]
  have e92 : iv 92 = 92 := rfl
  simp only [chr, e92, h1, if_true]
  rw [if_neg (by omega), if_neg (by omega)]
  by_cases g : (0 : Int) ≤ hexv (iv s[2]) ∧ (0 : Int) ≤ hexv (iv s[3])
  · rw [if_pos g, if_pos g]
    have b2 : hexv (iv s[2]) ≤ 15 := by unfold hexv; split <;> (try split) <;> omega
    have b3 : hexv (iv s[3]) ≤ 15 := by unfold hexv; split <;> (try split) <;> omega
    simp only [chrV]
    rw [iv_ofNat _ (by omega)]
    congr 1
    omega
  · rw [if_neg g, if_neg g]; rfl
theorem chr_nohex (s : ByteArray) (h : 1 < s.size) (h0 : iv s[0] = 92) (h1 : iv s[1] = 120) (h3 : ¬ 3 < s.size) : chr s.data.toList = none := by
  rw [chr_esc s h h0]
  have e92 : iv 92 = 92 := rfl
  have hl : (s.data.toList.drop 2).length ≤ 1 := by rw [List.length_drop]; show s.data.size - 2 ≤ 1; have : s.size = s.data.size := rfl; omega
  generalize s.data.toList.drop 2 = r at *
  simp only [chr, e92, h1, if_true]
  rw [if_neg (by omega), if_neg (by omega)]
  rcases r with _ | ⟨a, _ | ⟨b, r⟩⟩
  · rfl
  · rfl
  · simp at hl
theorem chr_else (s : ByteArray) (h : 1 < s.size) (h0 : iv s[0] = 92) (h1 : ¬ iv s[1] = 120) :
    chr s.data.toList = if iv s[1] = 34 ∨ iv s[1] = 92 then some (s[1], 2) else if iv s[1] = 110 then some (10, 2) else none := by
  rw [chr_esc s h h0]
  have e92 : iv 92 = 92 := rfl
  simp only [chr, e92, h1, if_true, if_false]
theorem hexv_le (r : Int) : hexv r ≤ 15 := by unfold hexv; split <;> (try split) <;> omega
theorem ret_chr {a b c d : Int} (h : a = b) (h' : c = d) : Ending.returned (.tuple #[.int .u8 a, .int .i64 c]) = .returned (.tuple #[.int .u8 b, .int .i64 d]) := by rw [h, h']
theorem quiet_left {P : Program} {f : FuncId} {args : Array Value} {w : World} {n : Nat} {v : Value}
    (h : Calls P f args (w.drewN n) fun e w' => e = .returned v ∧ w.drewN n = w') : Calls P f args (w.drewN n) fun e w'' => e = .returned v ∧ ∃ m, w'' = w.drewN m :=
  h.mono fun _ _ ⟨he, hm⟩ => ⟨he, n, hm.symm⟩
theorem quiet_same_left {P : Program} {f : FuncId} {args : Array Value} {w : World} {v : Value}
    (h : Calls P f args w fun e w' => e = .returned v ∧ w = w') : Calls P f args w fun e w'' => e = .returned v ∧ w'' = w :=
  h.mono fun _ _ ⟨he, hm⟩ => ⟨he, hm.symm⟩
theorem below_drewN {B : Nat} {a w : World} (h : Below B a w) (n : Nat) : Below B a (w.drewN n) := ⟨h.os, h.tape, h.output, h.size, h.block⟩
set_option maxHeartbeats 1000000 in
theorem escape_hex (s : ByteArray) (w : World) (h : 3 < s.size) (h1 : iv s[1] = 120) :
    Calls Tryz.prog 115 #[.string s] w (CRes (if (0 : Int) ≤ hexv (iv s[2]) ∧ (0 : Int) ≤ hexv (iv s[3]) then ((16 : Int) * hexv (iv s[2]) + hexv (iv s[3]), (4 : Int)) else ((0 : Int), (0 : Int))) w) := by
  have r2 := iv_range s[2]
  have r3 := iv_range s[3]
  have hx2 := fun W => isHex_any (iv s[2]) W r2.1 r2.2
  have hx3 := fun W => isHex_any (iv s[3]) W r3.1 r3.2
  have hv2 := fun W => hexValue_any (iv s[2]) W
  have hv3 := fun W => hexValue_any (iv s[3]) W
  have l2 := hexv_le (iv s[2])
  have l3 := hexv_le (iv s[3])
  have t1 := test_iv h1
  have t2 : ((s[1].toNat : Int) == 34) = false := test_iv' (by omega)
  have t3 : ((s[1].toNat : Int) == 92) = false := test_iv' (by omega)
  have t4 : ((s[1].toNat : Int) == 110) = false := test_iv' (by omega)
  clear h1
  unfold iv at *
  by_cases g2 : (0 : Int) ≤ hexv (s[2].toNat : Int)
  · have d2 : decide ((0 : Int) ≤ hexv (s[2].toNat : Int)) = true := by simpa using g2
    rw [d2] at hx2
    have hv2 := fun W => hv2 W g2
    by_cases g3 : (0 : Int) ≤ hexv (s[3].toNat : Int)
    · have d3 : decide ((0 : Int) ≤ hexv (s[3].toNat : Int)) = true := by simpa using g3
      rw [d3] at hx3
      have hv3 := fun W => hv3 W g3
      rw [if_pos ⟨g2, g3⟩]
      generalize hexv (s[2].toNat : Int) = a at *
      generalize hexv (s[3].toNat : Int) = b at *
      have hor : bits .or .u8 (a * 16) b = 16 * a + b := by
        rw [Int.mul_comm]
        obtain ⟨a', rfl⟩ := Int.eq_ofNat_of_zero_le g2
        obtain ⟨b', rfl⟩ := Int.eq_ofNat_of_zero_le g3
        exact or_hex ⟨a', by omega⟩ ⟨b', by omega⟩
      have X2 := Lib.hid hx2
      have X3 := Lib.hid hx3
      have V2 := Lib.hid hv2
      have V3 := Lib.hid hv3
      have OR := Lib.hid hor
      clear hx2 hx3 hv2 hv3 hor d2 d3
      go_enter Tryz.func115, Tryz.ntmps115
      go_wp2_with fail
      refine (X2.out _).mono ?_
      rintro e w1 ⟨rfl, b1⟩
      go_wp2_with fail
      refine (X3.out _).mono ?_
      rintro e w2 ⟨rfl, b2⟩
      go_wp2_with fail
      go_quiet ((go_at_call 136; first | with_reducible exact quiet_left (V2.out _) | with_reducible exact quiet_left (V3.out _) | with_reducible exact quiet_same_left (V2.out _) | with_reducible exact quiet_same_left (V3.out _)))
      go_wp2
      go_ret2
      exact ⟨ret_chr OR.out rfl, below_drewN (b1.trans (b2.mono b1.size)) _⟩
    · have d3 : decide ((0 : Int) ≤ hexv (s[3].toNat : Int)) = false := by simpa using g3
      rw [d3] at hx3
      rw [if_neg (fun g => g3 g.2)]
      generalize hexv (s[2].toNat : Int) = a at *
      generalize hexv (s[3].toNat : Int) = b at *
      have X2 := Lib.hid hx2
      have X3 := Lib.hid hx3
      clear hx2 hx3 hv2 hv3 d2 d3
      go_enter Tryz.func115, Tryz.ntmps115
      go_wp2_with fail
      refine (X2.out _).mono ?_
      rintro e w1 ⟨rfl, b1⟩
      go_wp2_with fail
      refine (X3.out _).mono ?_
      rintro e w2 ⟨rfl, b2⟩
      go_wp2
      go_ret2
      exact ⟨rfl, (b1.trans (b2.mono b1.size))⟩
  · have d2 : decide ((0 : Int) ≤ hexv (s[2].toNat : Int)) = false := by simpa using g2
    rw [d2] at hx2
    rw [if_neg (fun g => g2 g.1)]
    generalize hexv (s[2].toNat : Int) = a at *
    generalize hexv (s[3].toNat : Int) = b at *
    have X2 := Lib.hid hx2
    clear hx2 hx3 hv2 hv3 d2
    go_enter Tryz.func115, Tryz.ntmps115
    go_wp2_with fail
    refine (X2.out _).mono ?_
    rintro e w1 ⟨rfl, b1⟩
    go_wp2
    go_ret2
    exact ⟨rfl, b1⟩
set_option maxHeartbeats 1000000 in
theorem escape_any (s : ByteArray) (w : World) (h : 0 < s.size) (h0 : iv s[0] = 92) : Calls Tryz.prog 115 #[.string s] w (CRes (chrV (chr s.data.toList)) w) := by
  by_cases h1 : 1 < s.size
  · by_cases hx : iv s[1] = 120
    · by_cases h3 : 3 < s.size
      · rw [chr_hex s h3 h0 hx]
        exact escape_hex s w h3 hx
      · rw [chr_nohex s h1 h0 hx h3]
        have t1 := test_iv hx
        have t2 : ((s[1].toNat : Int) == 34) = false := test_iv' (by omega)
        have t3 : ((s[1].toNat : Int) == 92) = false := test_iv' (by omega)
        have t4 : ((s[1].toNat : Int) == 110) = false := test_iv' (by omega)
        clear hx h0
        go_enter Tryz.func115, Tryz.ntmps115
        go_wp2
        go_ret2
        exact ⟨rfl, Below.refl _ _⟩
    · rw [chr_else s h1 h0 hx]
      have t1 := test_iv' hx
      by_cases h34 : iv s[1] = 34
      · rw [if_pos (.inl h34)]
        have t2 := test_iv h34
        clear hx h0 h34
        go_enter Tryz.func115, Tryz.ntmps115
        go_wp2
        go_ret2
        exact ⟨rfl, Below.refl _ _⟩
      · have t2 := test_iv' h34
        by_cases h92 : iv s[1] = 92
        · rw [if_pos (.inr h92)]
          have t3 := test_iv h92
          clear hx h0 h34 h92
          go_enter Tryz.func115, Tryz.ntmps115
          go_wp2
          go_ret2
          exact ⟨rfl, Below.refl _ _⟩
        · have t3 := test_iv' h92
          rw [if_neg (by omega)]
          by_cases h110 : iv s[1] = 110
          · rw [if_pos h110]
            have t4 := test_iv h110
            clear hx h0 h34 h92 h110
            go_enter Tryz.func115, Tryz.ntmps115
            go_wp2
            go_ret2
            exact ⟨rfl, Below.refl _ _⟩
          · rw [if_neg h110]
            have t4 := test_iv' h110
            clear hx h0 h34 h92 h110
            go_enter Tryz.func115, Tryz.ntmps115
            go_wp2
            go_ret2
            exact ⟨rfl, Below.refl _ _⟩
  · rw [chr_short s h h0 h1]
    clear h0
    go_enter Tryz.func115, Tryz.ntmps115
    go_wp2
    go_ret2
    exact ⟨rfl, Below.refl _ _⟩
theorem chr_plain (s : ByteArray) (h : 0 < s.size) (h0 : ¬ iv s[0] = 92) : chr s.data.toList = if pln (iv s[0]) = true then some (s[0], 1) else none := by
  have e := drop_at s 0 h
  rw [List.drop_zero] at e
  rw [e]
  simp [chr, h0]
set_option maxHeartbeats 1000000 in
theorem character_any (s : ByteArray) (w : World) (h : 0 < s.size) : Calls Tryz.prog 83 #[.string s] w (CRes (chrV (chr s.data.toList)) w) := by
  by_cases h0 : iv s[0] = 92
  · have t0 := test_iv h0
    have C := Lib.hid (escape_any s w h h0)
    clear h0
    generalize chrV (chr s.data.toList) = x at C ⊢
    go_enter Tryz.func83, Tryz.ntmps83
    go_wp2_with fail
    refine C.out.mono ?_
    rintro e w1 ⟨rfl, b1⟩
    go_wp2
    go_ret2
    exact ⟨rfl, b1⟩
  · have t0 := test_iv' h0
    rw [chr_plain s h h0]
    have C := plain_any (s[0].toNat : Int)
    show Calls Tryz.prog 83 #[.string s] w (CRes (chrV (if pln (s[0].toNat : Int) = true then some (s[0], 1) else none)) w)
    clear h0
    cases hp : pln (s[0].toNat : Int) with
    | true =>
      rw [hp] at C
      have C := Lib.hid C
      clear hp
      rw [if_pos rfl]
      go_enter Tryz.func83, Tryz.ntmps83
      go_wp2_with fail
      refine (C.out _).mono ?_
      rintro e w1 ⟨rfl, rfl⟩
      go_wp2
      go_ret2
      exact ⟨rfl, Below.refl _ _⟩
    | false =>
      rw [hp] at C
      have C := Lib.hid C
      clear hp
      rw [if_neg (by simp)]
      go_enter Tryz.func83, Tryz.ntmps83
      go_wp2_with fail
      refine (C.out _).mono ?_
      rintro e w1 ⟨rfl, rfl⟩
      go_wp2
      go_ret2
      exact ⟨rfl, Below.refl _ _⟩
end Go.Proofs.YtggjckalmlploaaGreatDoor.Lx
