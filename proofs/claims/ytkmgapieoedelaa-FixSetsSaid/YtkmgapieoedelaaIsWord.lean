/- The contract of isWord. -/
import Derived.Test.YtkmgapieoedelaaSpan
namespace Go.Proofs.Ytkmgapieoedelaa
open Go.RowKit Go.Proofs.LexMath

theorem run_len (q : Int → Bool) (r : Bs) : (run q r = r.length) ↔ (r.all fun d => q (iv d)) = true := by
  induction r with
  | nil => simp [run_nil]
  | cons c r ih =>
    by_cases h : q (iv c) = true
    · rw [run_yes q c r h]; simp [h, ih]
    · have h' : q (iv c) = false := by simpa using h
      rw [run_no q c r h']; simp [h']
theorem nil_of_size {s : ByteArray} (h : ¬ 0 < s.size) : s.data.toList = [] := by
  apply List.eq_nil_of_length_eq_zero
  show s.data.size = 0
  have : s.size = s.data.size := rfl
  omega
theorem isw_at (p q : Int → Bool) (s : ByteArray) (h : 0 < s.size) : isw p q s.data.toList = (p (s[0].toNat : Nat) && decide (((1 + run q (s.data.toList.drop 1) : Nat) : Int) = (s.size : Int))) := by
  have e := drop_at s 0 h
  rw [List.drop_zero] at e
  have hl : s.data.toList.length = s.size := rfl
  have e2 := run_len q (s.data.toList.drop 1)
  have hd : (s.data.toList.drop 1).length = s.size - 1 := by rw [List.length_drop, hl]
  rw [hd] at e2
  rw [e]
  rw [show (0 : Nat) + 1 = 1 from rfl]
  generalize s.data.toList.drop 1 = r at *
  simp only [isw, List.drop_succ_cons, List.drop_zero]
  have e3 : (r.all fun d => q (iv d)) = decide (((1 + run q r : Nat) : Int) = (s.size : Int)) := by
    rw [Bool.eq_iff_iff, ← e2, decide_eq_true_eq]
    omega
  rw [e3]
  rfl
theorem isWord_any (s : ByteArray) (v1 v2 : Value) (p q : Int → Bool) (w : World) (hs : s.size ≤ 9223372036854775807) (hq : Wide q) (h1 : Cls w v1 p) (h2 : Cls w v2 q) :
    Calls Try.prog 42 #[.string s, v1, v2] w fun e w' => e = .returned (.bool (isw p q s.data.toList)) ∧ Below w.heap.size w w' := by
  have hc := h1
  obtain ⟨f, caps, rfl, hf, hcl⟩ := hc
  obtain ⟨f2, caps2, rfl⟩ := h2.form
  have HW := Lib.hid hf
  have HQ := Lib.hid hq
  clear hf h1 hq
  by_cases h0 : 0 < s.size
  · have HV := Lib.hid (isw_at p q s h0)
    have hb : (s[0].toNat : Int) ≤ 255 := by have := s[0].toNat_lt; omega
    have a1 : s.toList.isEmpty = false := by
      rw [ByteArray.toList_eq]
      cases hx : s.data.toList with
      | nil => have : s.data.toList.length = s.size := rfl; rw [hx] at this; simp at this; omega
      | cons => rfl
    cases hp : p (s[0].toNat : Nat) with
    | true =>
      have HL := hcl (s[0].toNat : Nat) w (Below.refl _ _)
      rw [hp] at HV HL
      have HL := Lib.hid HL
      clear hp hcl
      go_enter Try.func42, Try.ntmps42
      go_wp2_with ((refine wpList_call_slot_if (o := ⟨some 14, _, _, _, _, _⟩) (by rfl) 10 _ _ rfl f caps rfl HW.out (#[.int .i32 (s[0].toNat : Nat)] ++ caps) (by simp [go_sem]) ?_; refine HL.out.mono ?_; rintro e w1 ⟨rfl, hs⟩; refine ⟨_, rfl, ?_⟩; simp only [Act.put, List.setIfInBounds_toArray, List.set_cons_succ, List.set_cons_zero]; have HS := Lib.hid hs; clear hs))
      have S := span_any s 1 _ q w1 (by omega) (by omega) HQ.out (h2.below HS.out)
      generalize 1 + run q (s.data.toList.drop 1) = m at S HV
      refine S.mono ?_
      rintro e w2 ⟨rfl, b2⟩
      clear S
      go_wp2
      go_ret
      refine ⟨ret_bool ?_, HS.out.trans (b2.mono HS.out.size)⟩
      rw [HV.out]
      rfl
    | false => 
      have HL := hcl (s[0].toNat : Nat) w (Below.refl _ _)
      rw [hp] at HV HL
      have HL := Lib.hid HL
      clear hp hcl
      go_enter Try.func42, Try.ntmps42
      go_wp2_with ((refine wpList_call_slot_if (o := ⟨some 14, _, _, _, _, _⟩) (by rfl) 10 _ _ rfl f caps rfl HW.out (#[.int .i32 (s[0].toNat : Nat)] ++ caps) (by simp [go_sem]) ?_; refine HL.out.mono ?_; rintro e w1 ⟨rfl, hs⟩; refine ⟨_, rfl, ?_⟩; simp only [Act.put, List.setIfInBounds_toArray, List.set_cons_succ, List.set_cons_zero]; have HS := Lib.hid hs; clear hs))
      go_ret
      exact ⟨ret_bool (by rw [HV.out]; rfl), HS.out⟩
  · have e := nil_of_size h0
    have e2 : s.toList = [] := by rw [ByteArray.toList_eq]; exact e
    have HE := Lib.hid e
    clear e hcl
    go_enter Try.func42, Try.ntmps42
    go_wp2_with fail
    go_ret
    exact ⟨ret_bool (by rw [HE.out]; rfl), Below.refl _ _⟩
end Go.Proofs.Ytkmgapieoedelaa
