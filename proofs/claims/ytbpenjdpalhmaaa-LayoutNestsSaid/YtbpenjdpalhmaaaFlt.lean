/- Whole numbers below 2^53 as floats of 64 bits: they are exact, their sums and differences too. No Go text here. -/
import Derived.WalkLawsBesides
namespace Go.Proofs.LayoutMath
open Go Ieee

/-- The word of a whole number. -/
def flt (n : Nat) : Nat := floatOfInt .f64 n
def big : Nat := 9007199254740992
theorem log_lt {n : Nat} (h0 : n ≠ 0) (h : n < 2 ^ 53) : n.log2 ≤ 52 := by
  have := (Nat.log2_lt h0).2 h
  omega
theorem log_mul {n k : Nat} (h0 : n ≠ 0) : (n * 2 ^ k).log2 = n.log2 + k := by
  have h1 := Nat.log2_self_le h0
  have h2 := @Nat.lt_log2_self n
  have hp : 0 < 2 ^ k := Nat.two_pow_pos k
  have hm : n * 2 ^ k ≠ 0 := Nat.mul_ne_zero h0 (by omega)
  apply (Nat.log2_eq_iff hm).2
  constructor
  · rw [Nat.pow_add]
    exact Nat.mul_le_mul_right _ h1
  · rw [show n.log2 + k + 1 = (n.log2 + 1) + k by omega, Nat.pow_add]
    exact Nat.mul_lt_mul_of_pos_right h2 hp
/-- The rung of a number: its place in its binade above the binade's own. -/
def rung (n : Nat) : Nat := if n = 0 then 0 else (n.log2 + 1022) * 4503599627370496 + n * 2 ^ (52 - n.log2)
theorem kept_range {n : Nat} (h0 : n ≠ 0) (h : n < 2 ^ 53) : 2 ^ 52 ≤ n * 2 ^ (52 - n.log2) ∧ n * 2 ^ (52 - n.log2) < 2 ^ 53 := by
  have hl := log_lt h0 h
  have h1 := Nat.log2_self_le h0
  have h2 := @Nat.lt_log2_self n
  have hp : 0 < 2 ^ (52 - n.log2) := Nat.two_pow_pos _
  constructor
  · calc 2 ^ 52 = 2 ^ n.log2 * 2 ^ (52 - n.log2) := by rw [← Nat.pow_add]; congr 1; omega
      _ ≤ _ := Nat.mul_le_mul_right _ h1
  · calc n * 2 ^ (52 - n.log2) < 2 ^ (n.log2 + 1) * 2 ^ (52 - n.log2) := Nat.mul_lt_mul_of_pos_right h2 hp
      _ = 2 ^ 53 := by rw [← Nat.pow_add]; congr 1; omega
theorem cut_whole (way : Toward) (neg : Bool) (m d : Nat) (h0 : m ≠ 0) : way.cut neg (m * 2 ^ d) d = m := by
  have hp : 0 < 2 ^ d := Nat.two_pow_pos d
  have hmin : min d ((m * 2 ^ d).log2 + 2) = d := by rw [log_mul h0]; omega
  unfold Toward.cut
  simp only [hmin, Nat.shiftLeft_eq, Nat.one_mul]
  rw [Nat.mul_div_cancel _ hp, Nat.mul_mod_left]
  cases way <;> simp <;> omega
theorem lp : double.leastPlace = -1074 := by decide
theorem fb : (double.fractionBits : Int) = 52 := rfl
theorem binade_eq : double.binade = 4503599627370496 := rfl
theorem sw_eq : double.signWeight = 9223372036854775808 := rfl
theorem inf_eq : double.infRung = 9218868437227405312 := by decide +kernel
theorem kept_cut (n k : Nat) (h0 : n ≠ 0) (hl : n.log2 ≤ 52) : Toward.even.cut false ((n * 2 ^ k) <<< (-(k : Int) - ((n.log2 : Int) - 52)).toNat) ((n.log2 : Int) - 52 - -(k : Int)).toNat = n * 2 ^ (52 - n.log2) := by
  rw [Nat.shiftLeft_eq]
  have hne : n * 2 ^ (52 - n.log2) ≠ 0 := Nat.mul_ne_zero h0 (by have := Nat.two_pow_pos (52 - n.log2); omega)
  by_cases hc : k ≤ 52 - n.log2
  · rw [show (-(k : Int) - ((n.log2 : Int) - 52)).toNat = 52 - n.log2 - k by omega, show ((n.log2 : Int) - 52 - -(k : Int)).toNat = 0 by omega]
    rw [Nat.mul_assoc, ← Nat.pow_add, show k + (52 - n.log2 - k) = 52 - n.log2 by omega]
    have := cut_whole .even false (n * 2 ^ (52 - n.log2)) 0 hne
    rwa [Nat.pow_zero, Nat.mul_one] at this
  · rw [show (-(k : Int) - ((n.log2 : Int) - 52)).toNat = 0 by omega, show ((n.log2 : Int) - 52 - -(k : Int)).toNat = k - (52 - n.log2) by omega]
    have := cut_whole .even false (n * 2 ^ (52 - n.log2)) (k - (52 - n.log2)) hne
    rw [Nat.mul_assoc, ← Nat.pow_add, show 52 - n.log2 + (k - (52 - n.log2)) = k by omega] at this
    rw [Nat.pow_zero, Nat.mul_one]
    exact this
theorem word_rung (r : Nat) (h : r ≤ 9218868437227405312) : double.word false (min r double.infRung) = r := by
  rw [inf_eq, Nat.min_eq_left h]
  rfl
theorem nearest_pos (m : Nat) (p last : Int) (h : m ≠ 0) (hl : max (p + (m.log2 : Int) - 52) (-1074) = last) : double.nearest false m p = double.word false (min ((last - -1074).toNat * 4503599627370496 + Toward.even.cut false (m <<< (p - last).toNat) (last - p).toNat) double.infRung) := by
  unfold Format.nearest
  rw [if_neg h]
  simp only [fb, lp, binade_eq, hl]
theorem nearest_scaled {n k : Nat} (h0 : n ≠ 0) (h : n < 2 ^ 53) : double.nearest false (n * 2 ^ k) (-(k : Int)) = rung n := by
  have hl := log_lt h0 h
  have hm : n * 2 ^ k ≠ 0 := Nat.mul_ne_zero h0 (by have := Nat.two_pow_pos k; omega)
  have hr := kept_range h0 h
  rw [nearest_pos (n * 2 ^ k) _ ((n.log2 : Int) - 52) hm (by rw [log_mul h0]; omega), kept_cut n k h0 hl]
  unfold rung
  rw [if_neg h0, show ((n.log2 : Int) - 52 - -1074).toNat = n.log2 + 1022 by omega]
  generalize n * 2 ^ (52 - n.log2) = K at hr
  rw [word_rung]
  omega
theorem nearest_zero (p : Int) : double.nearest false 0 p = 0 := by simp [Format.nearest, Format.word]
theorem flt_rung {n : Nat} (h : n < 2 ^ 53) : flt n = rung n := by
  unfold flt floatOfInt FloatKind.nearest FloatKind.encode FloatKind.format Format.write
  have e : decide ((n : Int) < 0) = false := by simp
  simp only [Int.natAbs_natCast, e]
  by_cases h0 : n = 0
  · subst h0; rw [nearest_zero]; rfl
  · have := nearest_scaled (k := 0) h0 h
    simpa using this
/-- What the word stands for. -/
def mag (n : Nat) : Nat := if n = 0 then 0 else n * 2 ^ (52 - n.log2)
def place (n : Nat) : Nat := if n = 0 then 1074 else 52 - n.log2
theorem mag_eq (n : Nat) : mag n = n * 2 ^ (if n = 0 then 0 else place n) := by
  unfold mag place
  split <;> simp [*]
theorem read_flt {n : Nat} (h : n < 2 ^ 53) : double.read (flt n) = .number false (mag n) (-(place n : Int)) := by
  rw [flt_rung h]
  unfold Format.read
  simp only [sw_eq, binade_eq, inf_eq, lp]
  by_cases h0 : n = 0
  · subst h0; rfl
  · have hl := log_lt h0 h
    have hr := kept_range h0 h
    unfold rung mag place
    rw [if_neg h0, if_neg h0, if_neg h0]
    generalize hK : n * 2 ^ (52 - n.log2) = K at hr ⊢
    have d1 : ((n.log2 + 1022) * 4503599627370496 + K) / 9223372036854775808 = 0 := Nat.div_eq_of_lt (by omega)
    have d2 : ((n.log2 + 1022) * 4503599627370496 + K) % 9223372036854775808 = (n.log2 + 1022) * 4503599627370496 + K := Nat.mod_eq_of_lt (by omega)
    have d3 : ((n.log2 + 1022) * 4503599627370496 + K) % 4503599627370496 = K - 4503599627370496 := by omega
    have d4 : ((n.log2 + 1022) * 4503599627370496 + K) / 4503599627370496 = n.log2 + 1023 := by omega
    rw [d1, d2, if_neg (by omega), if_pos (by omega), d3, d4]
    have p1 : 4503599627370496 + (K - 4503599627370496) = K := by omega
    have p2 : -1074 + ((n.log2 + 1023 - 1 : Nat) : Int) = -((52 - n.log2 : Nat) : Int) := by omega
    rw [p1, p2]
    rfl
theorem signed_mag {n k : Nat} (hk : place n ≤ k ∨ n = 0) : signed false (mag n) (-(place n : Int) - -(k : Int)).toNat = ((n * 2 ^ k : Nat) : Int) := by
  unfold signed
  simp only [Bool.false_eq_true, if_false, Nat.shiftLeft_eq]
  rw [mag_eq]
  by_cases h0 : n = 0
  · subst h0; simp
  · rw [if_neg h0, Nat.mul_assoc, ← Nat.pow_add]
    have := hk.resolve_right h0
    rw [show place n + (-(place n : Int) - -(k : Int)).toNat = k by omega]
theorem signed_neg {n k : Nat} (hk : place n ≤ k ∨ n = 0) : signed true (mag n) (-(place n : Int) - -(k : Int)).toNat = -((n * 2 ^ k : Nat) : Int) := by
  have := signed_mag hk
  unfold signed at this ⊢
  simp only [Bool.false_eq_true, if_false, if_true] at this ⊢
  rw [this]
theorem place_le {n : Nat} (h0 : n ≠ 0) : place n ≤ 52 := by
  unfold place; rw [if_neg h0]; omega
/-- One place that serves both. -/
theorem base_eq (a b : Nat) : min (-(place a : Int)) (-(place b : Int)) = -((max (place a) (place b) : Nat) : Int) := by omega
theorem nearest_any {n k : Nat} (h : n < 2 ^ 53) : double.nearest false (n * 2 ^ k) (-(k : Int)) = flt n := by
  by_cases h0 : n = 0
  · subst h0
    rw [Nat.zero_mul, nearest_zero, flt_rung h]
    rfl
  · rw [flt_rung h]
    exact nearest_scaled h0 h
theorem write_nat (neg : Bool) (m : Nat) (p : Int) (n k : Nat) (h : n < 2 ^ 53) (hn : neg = false) (hm : m = n * 2 ^ k) (hp : p = -(k : Int)) : double.write (.number neg m p) = flt n := by
  subst hn hm hp
  exact nearest_any h
theorem flt_add {a b : Nat} (h : a + b < 2 ^ 53) : floatBits .add .f64 (flt a) (flt b) = some (flt (a + b)) := by
  show double.add (flt a) (flt b) = _
  unfold Format.add
  rw [read_flt (by omega), read_flt (by omega)]
  unfold Datum.sum
  simp only [base_eq, Option.map_some]
  have e1 := signed_mag (n := a) (k := max (place a) (place b)) (.inl (Nat.le_max_left _ _))
  have e2 := signed_mag (n := b) (k := max (place a) (place b)) (.inl (Nat.le_max_right _ _))
  rw [e1, e2]
  generalize max (place a) (place b) = k
  rw [write_nat _ _ _ (a + b) k h]
  · split
    · rfl
    · exact decide_eq_false (by omega)
  · rw [Nat.add_mul]; omega
  · rfl
theorem flt_sub {a b : Nat} (hb : b ≤ a) (h : a < 2 ^ 53) : floatBits .sub .f64 (flt a) (flt b) = some (flt (a - b)) := by
  show double.sub (flt a) (flt b) = _
  unfold Format.sub
  rw [read_flt (by omega), read_flt (by omega)]
  unfold Datum.opposite Datum.sum
  simp only [base_eq, Option.map_some, Bool.not_false]
  have e1 := signed_mag (n := a) (k := max (place a) (place b)) (.inl (Nat.le_max_left _ _))
  have e2 := signed_neg (n := b) (k := max (place a) (place b)) (.inl (Nat.le_max_right _ _))
  rw [e1, e2]
  generalize max (place a) (place b) = k
  have hm : b * 2 ^ k ≤ a * 2 ^ k := Nat.mul_le_mul_right _ hb
  rw [write_nat _ _ _ (a - b) k (by omega)]
  · split
    · rfl
    · exact decide_eq_false (by omega)
  · rw [Nat.sub_mul]; omega
  · rfl
theorem flt_sub_some {a b : Nat} (ha : a < 2 ^ 53) (hb : b < 2 ^ 53) : ∃ r, floatBits .sub .f64 (flt a) (flt b) = some r := by
  show ∃ r, double.sub (flt a) (flt b) = some r
  unfold Format.sub
  rw [read_flt ha, read_flt hb]
  exact ⟨_, rfl⟩
theorem flt_int {n : Nat} (h : n < 2 ^ 53) : floatToIntVal .f64 (flt n) .i64 = some (n : Int) := by
  unfold floatToIntVal
  have hd : FloatKind.f64.decode (flt n) = _ := read_flt h
  rw [hd]
  have ei : (Datum.number false (mag n) (-(place n : Int))).toInt .zero = some (n : Int) := by
    unfold Datum.toInt Datum.integral
    simp only [show (-(place n : Int)).toNat = 0 by omega, show (- -(place n : Int)).toNat = place n by omega, Nat.shiftLeft_zero]
    rw [mag_eq]
    by_cases h0 : n = 0
    · subst h0
      decide +kernel
    · rw [if_neg h0, cut_whole _ _ _ _ h0]
      simp [signed]
  rw [ei]
  simp only
  rw [if_pos]
  constructor
  · exact Int.le_trans (by decide) (Int.natCast_nonneg n)
  · have : (n : Int) ≤ 9007199254740992 := by omega
    exact Int.le_trans this (by decide)
theorem flt_zero : flt 0 = 0 := by decide +kernel
theorem flt_one : flt 1 = 4607182418800017408 := by decide +kernel
end Go.Proofs.LayoutMath
