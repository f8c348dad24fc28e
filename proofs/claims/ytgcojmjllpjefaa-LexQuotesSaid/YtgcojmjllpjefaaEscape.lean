/- The contracts of escape and character: the byte for which the head of a text stands in a string. -/
import Derived.Test.YtgcojmjllpjefaaChars
import Derived.Test.YtgcojmjllpjefaaSkip
import Derived.Deep.QuietTactic
import Derived.BigQuiet
namespace Go.Proofs.Ytgcojmjllpjefaa
open Go.RowKit Go.Proofs.LexMath

def chrV : Option (UInt8 × Nat) → Int × Int
  | none => (0, 0)
  | some (c, n) => (iv c, n)
def CRes (x : Int × Int) (W : World) (e : Ending) (w' : World) : Prop := e = .returned (.tuple #[.int .u8 x.1, .int .i64 x.2]) ∧ Below W.heap.size W w'
theorem or_hex : ∀ a b : Fin 16, bits .or .u8 (16 * (a.val : Int)) (b.val : Int) = 16 * (a.val : Int) + (b.val : Int) := by decide
theorem chr_short (s : ByteArray) (h : 0 < s.size) (h0 : iv s[0] = 92) (h1 : ¬ 1 < s.size) : chr s.data.toList = none := by
  have e := drop_at s 0 h
  rw [List.drop_zero] at e
  have e1 : s.data.toList.drop (0 + 1) = [] := List.drop_eq_nil_of_le (by show s.data.size ≤ _; have : s.size = s.data.size := rfl; omega)
  rw [e, e1]
  simp [chr, h0]
theorem chr_esc (s : ByteArray) (h : 1 < s.size) (h0 : iv s[0] = 92) : chr s.data.toList = chr (92 :: s[1] :: s.data.toList.drop 2) := by
  have e := drop_at s 0 (by omega)
  have e1 := drop_at s 1 h
  rw [List.drop_zero] at e
  rw [show (0 : Nat) + 1 = 1 from rfl] at e
  rw [show (1 : Nat) + 1 = 2 from rfl] at e1
  have : s[0] = 92 := iv_inj h0
  rw [this, e1] at e
  exact congrArg chr e
theorem chr_hex (s : ByteArray) (h : 3 < s.size) (h0 : iv s[0] = 92) (h1 : iv s[1] = 120) :
    chrV (chr s.data.toList) = if (0 : Int) ≤ hexv (iv s[2]) ∧ (0 : Int) ≤ hexv (iv s[3]) then ((16 : Int) * hexv (iv s[2]) + hexv (iv s[3]), (4 : Int)) else ((0 : Int), (0 : Int)) := by
  have e2 := drop_at s 2 (by omega)
  have e3 := drop_at s 3 (by omega)
  rw [show (2 : Nat) + 1 = 3 from rfl] at e2
  rw [chr_esc s (by omega) h0, e2, e3]
  have e92 : iv 92 = 92 := rfl
  simp only [chr, e92, h1, if_true]
  rw [if_neg (by omega), if_neg (by omega)]
  by_cases g : (0 : Int) ≤ hexv (iv s[2]) ∧ (0 : Int) ≤ hexv (iv s[3])
  · rw [if_pos g, if_pos g]
    have b2 : hexv (iv s[2]) ≤ 15 := by unfold hexv; split <;> (try split) <;> omega
    have b3 : hexv (iv s[3]) ≤ 15 := by unfold hexv; split <;> (try split) <;> omega
    simp only [chrV]
    rw [iv_ofNat _ (by omega)]
    congr 1
    omega
  · rw [if_neg g, if_neg g]; rfl
theorem chr_nohex (s : ByteArray) (h : 1 < s.size) (h0 : iv s[0] = 92) (h1 : iv s[1] = 120) (h3 : ¬ 3 < s.size) : chr s.data.toList = none := by
  rw [chr_esc s h h0]
  have e92 : iv 92 = 92 := rfl
  have hl : (s.data.toList.drop 2).length ≤ 1 := by rw [List.length_drop]; show s.data.size - 2 ≤ 1; have : s.size = s.data.size := rfl; omega
  generalize s.data.toList.drop 2 = r at *
  simp only [chr, e92, h1, if_true]
  rw [if_neg (by omega), if_neg (by omega)]
  rcases r with _ | ⟨a, _ | ⟨b, r⟩⟩
  · rfl
  · rfl
  · simp at hl
theorem chr_else (s : ByteArray) (h : 1 < s.size) (h0 : iv s[0] = 92) (h1 : ¬ iv s[1] = 120) :
    chr s.data.toList = if iv s[1] = 34 ∨ iv s[1] = 92 then some (s[1], 2) else if iv s[1] = 110 then some (10, 2) else none := by
  rw [chr_esc s h h0]
  have e92 : iv 92 = 92 := rfl
  simp only [chr, e92, h1, if_true, if_false]
theorem hexv_le (r : Int) : hexv r ≤ 15 := by unfold hexv; split <;> (try split) <;> omega
theorem ret_chr {a b c d : Int} (h : a = b) (h' : c = d) : Ending.returned (.tuple #[.int .u8 a, .int .i64 c]) = .returned (.tuple #[.int .u8 b, .int .i64 d]) := by rw [h, h']
theorem quiet_left {P : Program} {f : FuncId} {args : Array Value} {w : World} {n : Nat} {v : Value}
    (h : Calls P f args (w.drewN n) fun e w' => e = .returned v ∧ w.drewN n = w') : Calls P f args (w.drewN n) fun e w'' => e = .returned v ∧ ∃ m, w'' = w.drewN m :=
  h.mono fun _ _ ⟨he, hm⟩ => ⟨he, n, hm.symm⟩
theorem quiet_same_left {P : Program} {f : FuncId} {args : Array Value} {w : World} {v : Value}
    (h : Calls P f args w fun e w' => e = .returned v ∧ w = w') : Calls P f args w fun e w'' => e = .returned v ∧ w'' = w :=
  h.mono fun _ _ ⟨he, hm⟩ => ⟨he, hm.symm⟩
theorem below_drewN {B : Nat} {a w : World} (h : Below B a w) (n : Nat) : Below B a (w.drewN n) := ⟨h.os, h.tape, h.output, h.size, h.block⟩
set_option maxHeartbeats 1000000 in
theorem escape_hex (s : ByteArray) (w : World) (h : 3 < s.size) (h1 : iv s[1] = 120) :
    Calls Try.prog 66 #[.string s] w (CRes (if (0 : Int) ≤ hexv (iv s[2]) ∧ (0 : Int) ≤ hexv (iv s[3]) then ((16 : Int) * hexv (iv s[2]) + hexv (iv s[3]), (4 : Int)) else ((0 : Int), (0 : Int))) w) := by
  have r2 := iv_range s[2]
  have r3 := iv_range s[3]
  have hx2 := fun W => isHex_any (iv s[2]) W r2.1 r2.2
  have hx3 := fun W => isHex_any (iv s[3]) W r3.1 r3.2
  have hv2 := fun W => hexValue_any (iv s[2]) W
  have hv3 := fun W => hexValue_any (iv s[3]) W
  have l2 := hexv_le (iv s[2])
  have l3 := hexv_le (iv s[3])
  have t1 := test_iv h1
  have t2 : ((s[1].toNat : Int) == 34) = false := test_iv' (by omega)
  have t3 : ((s[1].toNat : Int) == 92) = false := test_iv' (by omega)
  have t4 : ((s[1].toNat : Int) == 110) = false := test_iv' (by omega)
  clear h1
  unfold iv at *
  by_cases g2 : (0 : Int) ≤ hexv (s[2].toNat : Int)
  · have d2 : decide ((0 : Int) ≤ hexv (s[2].toNat : Int)) = true := by simpa using g2
    rw [d2] at hx2
    have hv2 := fun W => hv2 W g2
    by_cases g3 : (0 : Int) ≤ hexv (s[3].toNat : Int)
    · have d3 : decide ((0 : Int) ≤ hexv (s[3].toNat : Int)) = true := by simpa using g3
      rw [d3] at hx3
      have hv3 := fun W => hv3 W g3
      rw [if_pos ⟨g2, g3⟩]
      generalize hexv (s[2].toNat : Int) = a at *
      generalize hexv (s[3].toNat : Int) = b at *
      have hor : bits .or .u8 (a * 16) b = 16 * a + b := by
        rw [Int.mul_comm]
        obtain ⟨a', rfl⟩ := Int.eq_ofNat_of_zero_le g2
        obtain ⟨b', rfl⟩ := Int.eq_ofNat_of_zero_le g3
        exact or_hex ⟨a', by omega⟩ ⟨b', by omega⟩
      have X2 := Lib.hid hx2
      have X3 := Lib.hid hx3
      have V2 := Lib.hid hv2
      have V3 := Lib.hid hv3
      have OR := Lib.hid hor
      clear hx2 hx3 hv2 hv3 hor d2 d3
      go_enter Try.func66, Try.ntmps66
      go_wp2_with fail
      refine (X2.out _).mono ?_
      rintro e w1 ⟨rfl, b1⟩
      go_wp2_with fail
      refine (X3.out _).mono ?_
      rintro e w2 ⟨rfl, b2⟩
      go_wp2_with fail
      go_quiet ((go_at_call 68; first | with_reducible exact quiet_left (V2.out _) | with_reducible exact quiet_left (V3.out _) | with_reducible exact quiet_same_left (V2.out _) | with_reducible exact quiet_same_left (V3.out _)))
      go_wp2
      go_ret2
      exact ⟨ret_chr OR.out rfl, below_drewN (b1.trans (b2.mono b1.size)) _⟩
    · have d3 : decide ((0 : Int) ≤ hexv (s[3].toNat : Int)) = false := by simpa using g3
      rw [d3] at hx3
      rw [if_neg (fun g => g3 g.2)]
      generalize hexv (s[2].toNat : Int) = a at *
      generalize hexv (s[3].toNat : Int) = b at *
      have X2 := Lib.hid hx2
      have X3 := Lib.hid hx3
      clear hx2 hx3 hv2 hv3 d2 d3
      go_enter Try.func66, Try.ntmps66
      go_wp2_with fail
      refine (X2.out _).mono ?_
      rintro e w1 ⟨rfl, b1⟩
      go_wp2_with fail
      refine (X3.out _).mono ?_
      rintro e w2 ⟨rfl, b2⟩
      go_wp2
      go_ret2
      exact ⟨rfl, (b1.trans (b2.mono b1.size))⟩
  · have d2 : decide ((0 : Int) ≤ hexv (s[2].toNat : Int)) = false := by simpa using g2
    rw [d2] at hx2
    rw [if_neg (fun g => g2 g.1)]
    generalize hexv (s[2].toNat : Int) = a at *
    generalize hexv (s[3].toNat : Int) = b at *
    have X2 := Lib.hid hx2
    clear hx2 hx3 hv2 hv3 d2
    go_enter Try.func66, Try.ntmps66
    go_wp2_with fail
    refine (X2.out _).mono ?_
    rintro e w1 ⟨rfl, b1⟩
    go_wp2
    go_ret2
    exact ⟨rfl, b1⟩
set_option maxHeartbeats 1000000 in
theorem escape_any (s : ByteArray) (w : World) (h : 0 < s.size) (h0 : iv s[0] = 92) : Calls Try.prog 66 #[.string s] w (CRes (chrV (chr s.data.toList)) w) := by
  by_cases h1 : 1 < s.size
  · by_cases hx : iv s[1] = 120
    · by_cases h3 : 3 < s.size
      · rw [chr_hex s h3 h0 hx]
        exact escape_hex s w h3 hx
      · rw [chr_nohex s h1 h0 hx h3]
        have t1 := test_iv hx
        have t2 : ((s[1].toNat : Int) == 34) = false := test_iv' (by omega)
        have t3 : ((s[1].toNat : Int) == 92) = false := test_iv' (by omega)
        have t4 : ((s[1].toNat : Int) == 110) = false := test_iv' (by omega)
        clear hx h0
        go_enter Try.func66, Try.ntmps66
        go_wp2
        go_ret2
        exact ⟨rfl, Below.refl _ _⟩
    · rw [chr_else s h1 h0 hx]
      have t1 := test_iv' hx
      by_cases h34 : iv s[1] = 34
      · rw [if_pos (.inl h34)]
        have t2 := test_iv h34
        clear hx h0 h34
        go_enter Try.func66, Try.ntmps66
        go_wp2
        go_ret2
        exact ⟨rfl, Below.refl _ _⟩
      · have t2 := test_iv' h34
        by_cases h92 : iv s[1] = 92
        · rw [if_pos (.inr h92)]
          have t3 := test_iv h92
          clear hx h0 h34 h92
          go_enter Try.func66, Try.ntmps66
          go_wp2
          go_ret2
          exact ⟨rfl, Below.refl _ _⟩
        · have t3 := test_iv' h92
          rw [if_neg (by omega)]
          by_cases h110 : iv s[1] = 110
          · rw [if_pos h110]
            have t4 := test_iv h110
            clear hx h0 h34 h92 h110
            go_enter Try.func66, Try.ntmps66
            go_wp2
            go_ret2
            exact ⟨rfl, Below.refl _ _⟩
          · rw [if_neg h110]
            have t4 := test_iv' h110
            clear hx h0 h34 h92 h110
            go_enter Try.func66, Try.ntmps66
            go_wp2
            go_ret2
            exact ⟨rfl, Below.refl _ _⟩
  · rw [chr_short s h h0 h1]
    clear h0
    go_enter Try.func66, Try.ntmps66
    go_wp2
    go_ret2
    exact ⟨rfl, Below.refl _ _⟩
theorem chr_plain (s : ByteArray) (h : 0 < s.size) (h0 : ¬ iv s[0] = 92) : chr s.data.toList = if pln (iv s[0]) = true then some (s[0], 1) else none := by
  have e := drop_at s 0 h
  rw [List.drop_zero] at e
  rw [e]
  simp [chr, h0]
set_option maxHeartbeats 1000000 in
theorem character_any (s : ByteArray) (w : World) (h : 0 < s.size) : Calls Try.prog 61 #[.string s] w (CRes (chrV (chr s.data.toList)) w) := by
  by_cases h0 : iv s[0] = 92
  · have t0 := test_iv h0
    have C := Lib.hid (escape_any s w h h0)
    clear h0
    generalize chrV (chr s.data.toList) = x at C ⊢
    go_enter Try.func61, Try.ntmps61
    go_wp2_with fail
    refine C.out.mono ?_
    rintro e w1 ⟨rfl, b1⟩
    go_wp2
    go_ret2
    exact ⟨rfl, b1⟩
  · have t0 := test_iv' h0
    rw [chr_plain s h h0]
    have C := plain_any (s[0].toNat : Int)
    show Calls Try.prog 61 #[.string s] w (CRes (chrV (if pln (s[0].toNat : Int) = true then some (s[0], 1) else none)) w)
    clear h0
    cases hp : pln (s[0].toNat : Int) with
    | true =>
      rw [hp] at C
      have C := Lib.hid C
      clear hp
      rw [if_pos rfl]
      go_enter Try.func61, Try.ntmps61
      go_wp2_with fail
      refine (C.out _).mono ?_
      rintro e w1 ⟨rfl, rfl⟩
      go_wp2
      go_ret2
      exact ⟨rfl, Below.refl _ _⟩
    | false =>
      rw [hp] at C
      have C := Lib.hid C
      clear hp
      rw [if_neg (by simp)]
      go_enter Try.func61, Try.ntmps61
      go_wp2_with fail
      refine (C.out _).mono ?_
      rintro e w1 ⟨rfl, rfl⟩
      go_wp2
      go_ret2
      exact ⟨rfl, Below.refl _ _⟩
end Go.Proofs.Ytgcojmjllpjefaa
