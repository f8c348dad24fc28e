/- The contract of literal: the string that is written from a place on. -/
import Derived.Test.YtgcojmjllpjefaaBytes
namespace Go.Proofs.Ytgcojmjllpjefaa
open Go.RowKit Go.Proofs.LexMath

def litV (at_ : Nat) : Option (Bs × Nat) → ByteArray × Int × Bool
  | none => (⟨#[]⟩, 0, false)
  | some (t, m) => if t.length ≤ 200 then (bs t, ((at_ + 1 + m : Nat) : Int), true) else (⟨#[]⟩, 0, false)
def LRes (x : ByteArray × Int × Bool) (W : World) (e : Ending) (w' : World) : Prop := e = .returned (.tuple #[.string x.1, .int .i64 x.2.1, .bool x.2.2]) ∧ Below W.heap.size W w'
/-- How far a string has been read: the bytes so far and the place. -/
def LitAt (s : ByteArray) (at_ p n : Nat) (acc : Bs) : Prop :=
  at_ + 1 ≤ p ∧ p ≤ s.size ∧ acc.length = n ∧ n ≤ 200 ∧ str (s.data.toList.drop (at_ + 1)) = (str (s.data.toList.drop p)).map fun x => (acc ++ x.1, p - (at_ + 1) + x.2)
theorem lit_start (s : ByteArray) (at_ : Nat) (h : at_ < s.size) : LitAt s at_ (at_ + 1) 0 [] := by
  refine ⟨Nat.le_refl _, h, rfl, by omega, ?_⟩
  cases str (s.data.toList.drop (at_ + 1)) <;> simp
theorem lit_out (s : ByteArray) (at_ p n : Nat) (acc : Bs) (h : LitAt s at_ p n acc) (hp : ¬ p < s.size) : litV at_ (str (s.data.toList.drop (at_ + 1))) = (⟨#[]⟩, 0, false) := by
  have e : s.data.toList.drop p = [] := List.drop_eq_nil_of_le (by show s.data.size ≤ _; have : s.size = s.data.size := rfl; omega)
  rw [h.2.2.2.2, e]; rfl
theorem lit_end (s : ByteArray) (at_ p n : Nat) (acc : Bs) (h : LitAt s at_ p n acc) (hp : p < s.size) (hc : iv s[p] = 34) : litV at_ (str (s.data.toList.drop (at_ + 1))) = (bs acc, ((p + 1 : Nat) : Int), true) := by
  rw [h.2.2.2.2, drop_at s p hp, str_end _ _ hc]
  obtain ⟨h1, h2, h3, h4, _⟩ := h
  simp only [litV, Option.map_some, List.append_nil]
  rw [if_pos (by omega)]
  congr 3
  omega
theorem lit_no (s : ByteArray) (p : Nat) (hp : p < s.size) (hc : ¬ iv s[p] = 34) : ∀ c r, s.data.toList.drop p = c :: r → ¬ iv c = 34 := by
  intro c r e
  rw [drop_at s p hp] at e
  injection e with e1 e2
  rw [← e1]; exact hc
theorem lit_bad (s : ByteArray) (at_ p n : Nat) (acc : Bs) (h : LitAt s at_ p n acc) (hp : p < s.size) (hc : ¬ iv s[p] = 34) (hn : chr (s.data.toList.drop p) = none) : litV at_ (str (s.data.toList.drop (at_ + 1))) = (⟨#[]⟩, 0, false) := by
  rw [h.2.2.2.2, str_bad _ hn (lit_no s p hp hc)]; rfl
theorem lit_long (s : ByteArray) (at_ p : Nat) (acc : Bs) (b : UInt8) (k : Nat) (h : LitAt s at_ p 200 acc) (hp : p < s.size) (hc : ¬ iv s[p] = 34) (hn : chr (s.data.toList.drop p) = some (b, k)) : litV at_ (str (s.data.toList.drop (at_ + 1))) = (⟨#[]⟩, 0, false) := by
  rw [h.2.2.2.2, str_step hn (lit_no s p hp hc)]
  cases str ((s.data.toList.drop p).drop k) with
  | none => rfl
  | some x =>
    have := h.2.2.1
    simp only [litV, Option.map_some]
    rw [if_neg (by simp; omega)]
theorem lit_step (s : ByteArray) (at_ p n : Nat) (acc : Bs) (b : UInt8) (k : Nat) (h : LitAt s at_ p n acc) (hp : p < s.size) (hc : ¬ iv s[p] = 34) (hn : chr (s.data.toList.drop p) = some (b, k)) (h2 : n < 200) : LitAt s at_ (p + k) (n + 1) (acc ++ [b]) := by
  have hk := chr_size hn
  rw [List.length_drop] at hk
  have hl : s.data.toList.length = s.size := rfl
  obtain ⟨a1, a2, a3, a4, a5⟩ := h
  refine ⟨by omega, by omega, by simp; omega, by omega, ?_⟩
  rw [a5, str_step hn (lit_no s p hp hc), List.drop_drop]
  cases str (s.data.toList.drop (p + k)) with
  | none => rfl
  | some x =>
    simp
    omega
theorem ret_lit {x : ByteArray × Int × Bool} {a : ByteArray} {b : Int} {c : Bool} (h : x = (a, b, c)) : Ending.returned (.tuple #[.string a, .int .i64 b, .bool c]) = .returned (.tuple #[.string x.1, .int .i64 x.2.1, .bool x.2.2]) := by rw [h]
set_option maxHeartbeats 1000000 in
theorem literal_any (s : ByteArray) (at_ : Nat) (w : World) (hat : at_ < s.size) (hs : s.size ≤ 100000000) :
    Calls Try.prog 50 #[.string s, .int .i64 at_] w (LRes (litV at_ (str (s.data.toList.drop (at_ + 1)))) w) := by
  have OUT := Lib.hid (lit_out s at_)
  have END := Lib.hid (lit_end s at_)
  have BAD := Lib.hid (lit_bad s at_)
  have LONG := Lib.hid (lit_long s at_)
  have STEP := Lib.hid (lit_step s at_)
  have START := Lib.hid (lit_start s at_ hat)
  generalize hx : litV at_ (str (s.data.toList.drop (at_ + 1))) = x at *
  clear hx
  go_enter Try.func50, Try.ntmps50
  go_wp2
  go_loopw [1, 7] (fun i t wr => ∃ (p n : Nat) (acc : Bs), i = .int .i64 p ∧ LitAt s at_ p n acc ∧ BRow w.heap.size wr t n acc ∧ Below w.heap.size w wr) (fun i _ _ => s.size - (intOf i).toNat)
  case atStart => exact ⟨at_ + 1, 0, [], by go_num, START.out, BRow.nil _ _, Below.refl _ _⟩
  case round =>
    obtain ⟨wo, hwo⟩ : ∃ wo : World, wo = wr := ⟨_, rfl⟩
    subst hwo
    obtain ⟨p, n, acc, rfl, hL, hR, hB⟩ := hrel
    obtain ⟨pp, cap, rfl⟩ := hR.form
    have hL' := hL
    obtain ⟨h1, h2, _, h3, _⟩ := hL'
    have HL := Lib.hid hL
    have HR := Lib.hid hR
    have hsz := hB.size
    have HB := Lib.hid hB
    clear hL hR hB
    by_cases hp : p < s.size
    · by_cases hc : iv s[p] = 34
      · have t1 := test_iv hc
        have E := Lib.hid (END.out p n acc HL.out hp hc)
        have hcv := conv_row HR.out
        clear hc
        go_wp2
        go_ret3
        exact ⟨ret_lit E.out, HB.out⟩
      · have t1 := test_iv' hc
        obtain ⟨hd1, hd2⟩ := span_form s p
        generalize hdd : s.extract p s.size = d at *
        have hd0 : 0 < d.size := by omega
        have C := fun W => character_any d W hd0
        rw [hd1] at C
        have HC := Lib.hid hc
        cases hn : chr (s.data.toList.drop p) with
        | none =>
          rw [hn] at C
          have E := Lib.hid (BAD.out p n acc HL.out hp hc hn)
          have CC := Lib.hid C
          clear hn C hd1 hd2 hc
          go_wp2_with fail
          refine (CC.out _).mono ?_
          rintro e w1 ⟨rfl, b1⟩
          simp only [chrV]
          go_wp2
          go_ret3
          exact ⟨ret_lit E.out, HB.out.trans (b1.mono HB.out.size)⟩
        | some bk =>
          obtain ⟨b, k⟩ := bk
          rw [hn] at C
          have hk := chr_size hn
          rw [List.length_drop] at hk
          have hl : s.data.toList.length = s.size := rfl
          have hk1 := hk.1
          have hk2 : p + k ≤ s.size := by omega
          have hkb : ((k : Int) == 0) = false := by simp; omega
          clear hk hl
          by_cases hn2 : n = 200
          · subst hn2
            have E := Lib.hid (LONG.out p acc b k HL.out hp hc hn)
            have CC := Lib.hid C
            clear hn C hd1 hd2 hc
            go_wp2_with fail
            refine (CC.out _).mono ?_
            rintro e w1 ⟨rfl, b1⟩
            simp only [chrV]
            go_wp2
            go_ret3
            exact ⟨ret_lit E.out, HB.out.trans (b1.mono HB.out.size)⟩
          · have S := Lib.hid (STEP.out p n acc b k HL.out hp hc hn (by omega))
            have hn3 : ((n : Int) == 200) = false := by simp; omega
            have CC := Lib.hid C
            clear hn C hd1 hd2 hc
            go_wp2_with fail
            refine (CC.out _).mono ?_
            rintro e w1 ⟨rfl, b1⟩
            have B1 := Lib.hid (HB.out.trans (b1.mono HB.out.size))
            have R1 := Lib.hid (HR.out.after b1)
            have hsz1 := b1.size
            clear b1
            simp only [chrV]
            go_wp2_with ((refine append_bytes [b] 1 rfl (.tmp 36) (.tmp 38) rfl rfl w.heap.size _ n acc rfl R1.out rfl (by omega) (by omega) (by omega) B1.out ?_; intro p' cap' w2 h1 h2; have R2 := Lib.hid h1; have B2 := Lib.hid h2; clear h1 h2))
            go_roundw
            case rel => exact ⟨p + k, n + 1, _, by go_num, S.out, R2.out, B2.out⟩
            case measure => simp [intOf]; omega
    · have E := Lib.hid (OUT.out p n acc HL.out hp)
      go_wp2
      go_ret3
      exact ⟨ret_lit E.out, HB.out⟩
end Go.Proofs.Ytgcojmjllpjefaa
