/- Plain lists of digits: the decimal digits of a number from 0 on, as bytes, and the number that a list of digits is. No walk here. -/
import Derived.Test.YtgcojmjllpjefaaMath
import Derived.Laws.BytesArg
namespace Go.Proofs.Ytgcojmjllpjefaa

def p10 : Nat → Int
  | 0 => 1
  | j + 1 => 10 * p10 j

/-- The decimal digits of n, at most f of them, each as its byte. -/
def dg : Nat → Int → List Int
  | 0, _ => []
  | f + 1, n => if n < 10 then [48 + n] else dg f (n / 10) ++ [48 + n % 10]

def val (l : List Int) : Int := l.foldl (fun m d => 10 * m + (d - 48)) 0

theorem dg_small (f : Nat) (n : Int) (h : n < 10) : dg (f + 1) n = [48 + n] := by simp [dg, h]
theorem dg_big (f : Nat) (n : Int) (h : 10 ≤ n) : dg (f + 1) n = dg f (n / 10) ++ [48 + n % 10] := by
  simp only [dg]; rw [if_neg (by omega)]
theorem p10_pos : ∀ j, 1 ≤ p10 j
  | 0 => by simp [p10]
  | j + 1 => by have := p10_pos j; simp only [p10]; omega
theorem p10_19 : p10 19 = 10000000000000000000 := by rfl
theorem p10_one (m : Int) (h : m < p10 1) : m < 10 := by simpa [p10] using h
theorem p10_div (m : Int) (j : Nat) (h : m < p10 (j + 1)) : m / 10 < p10 j := by simp only [p10] at h; omega

theorem val_nil : val [] = 0 := rfl
theorem val_snoc (l : List Int) (d : Int) : val (l ++ [d]) = 10 * val l + (d - 48) := by simp [val, List.foldl_append]
theorem dg_val : ∀ (f : Nat) (n : Int), 0 ≤ n → n < p10 f → val (dg f n) = n
  | 0, n, h0, h1 => by simp [p10] at h1; simp [dg, val]; omega
  | f + 1, n, h0, h1 => by
    by_cases h : n < 10
    · rw [dg_small _ _ h]; simp [val]; omega
    · rw [dg_big _ _ (by omega), val_snoc, dg_val f (n / 10) (by omega) (p10_div _ _ h1)]; omega
theorem dg_digit : ∀ (f : Nat) (n : Int), 0 ≤ n → ∀ d ∈ dg f n, 48 ≤ d ∧ d ≤ 57
  | 0, n, _, d, h => by simp [dg] at h
  | f + 1, n, h0, d, h => by
    by_cases hn : n < 10
    · rw [dg_small _ _ hn] at h; simp at h; omega
    · rw [dg_big _ _ (by omega)] at h
      rcases List.mem_append.1 h with h | h
      · exact dg_digit f (n / 10) (by omega) d h
      · simp at h; omega
theorem dg_length : ∀ (f : Nat) (n : Int), (dg f n).length ≤ f
  | 0, n => by simp [dg]
  | f + 1, n => by
    by_cases hn : n < 10
    · rw [dg_small _ _ hn]; simp
    · rw [dg_big _ _ (by omega)]; have := dg_length f (n / 10); simp; omega
theorem dg_ne (f : Nat) (n : Int) : 1 ≤ (dg (f + 1) n).length := by
  by_cases hn : n < 10
  · rw [dg_small _ _ hn]; simp
  · rw [dg_big _ _ (by omega)]; simp
theorem val_mono (l : List Int) (h : ∀ d ∈ l, 48 ≤ d ∧ d ≤ 57) : 0 ≤ val l ∧ ∀ r, (∀ d ∈ r, 48 ≤ d ∧ d ≤ 57) → val l ≤ val (l ++ r) := by
  have h0 : ∀ (k : Nat) (l : List Int), l.length = k → (∀ d ∈ l, 48 ≤ d ∧ d ≤ 57) → 0 ≤ val l := by
    intro k
    induction k with
    | zero => intro l hl _; have : l = [] := List.eq_nil_of_length_eq_zero hl; subst this; simp [val]
    | succ k ih =>
      intro l hl hd
      rcases List.eq_nil_or_concat l with rfl | ⟨a, b, rfl⟩
      · simp at hl
      · rw [List.concat_eq_append] at *
        rw [val_snoc]
        have h1 := ih a (by simpa using hl) (fun d hd' => hd d (by simp [hd']))
        have h2 := hd b (by simp)
        omega
  refine ⟨h0 _ l rfl h, fun r => ?_⟩
  induction r generalizing l with
  | nil => intro _; simp
  | cons x r ih =>
    intro hr
    have hx := hr x (by simp)
    have h1 := ih (l ++ [x]) (by intro d hd; rcases List.mem_append.1 hd with hd | hd; exact h d hd; simp at hd; subst hd; exact hx) (fun d hd => hr d (by simp [hd]))
    rw [List.append_assoc] at h1
    rw [val_snoc] at h1
    have h2 := h0 _ l rfl h
    have e : l ++ x :: r = l ++ ([x] ++ r) := by simp
    rw [e]
    omega
/-- The digits' prefixes: what a reader has after k of them. -/
theorem val_take (l : List Int) (h : ∀ d ∈ l, 48 ≤ d ∧ d ≤ 57) (k : Nat) : 0 ≤ val (l.take k) ∧ val (l.take k) ≤ val l := by
  have h1 := val_mono (l.take k) (fun d hd => h d (List.mem_of_mem_take hd))
  have h2 := h1.2 (l.drop k) (fun d hd => h d (List.mem_of_mem_drop hd))
  rw [List.take_append_drop] at h2
  exact ⟨h1.1, h2⟩
theorem val_take_succ (l : List Int) (k : Nat) (h : k < l.length) : val (l.take (k + 1)) = 10 * val (l.take k) + (l.getD k 0 - 48) := by
  rw [List.take_succ_eq_append_getElem h, val_snoc]
  simp [List.getD, h]
/-- Twenty places are enough, however many are offered. -/
theorem dg_more : ∀ (f g : Nat) (n : Int), 0 ≤ n → n < p10 f → f ≤ g → 1 ≤ f → dg g n = dg f n
  | 0, _, _, _, _, _, h => by omega
  | f + 1, 0, _, _, _, h, _ => by omega
  | f + 1, g + 1, n, h0, h1, hfg, _ => by
    by_cases hn : n < 10
    · rw [dg_small _ _ hn, dg_small _ _ hn]
    · rw [dg_big _ _ (by omega), dg_big _ _ (by omega)]
      by_cases hf : f = 0
      · subst hf; simp [p10] at h1; omega
      · rw [dg_more f g (n / 10) (by omega) (p10_div _ _ h1) (by omega) (by omega)]

/-- The text of a number of the language, as the list of its bytes. -/
def shl (v : Int) : List Int := if v < 0 then 126 :: dg 19 (-v) else dg 19 v
def shw (v : Int) : ByteArray := strOfNums (shl v)
theorem shl_neg (v : Int) (h : v < 0) : shl v = 126 :: dg 19 (-v) := by simp [shl, h]
theorem shl_pos (v : Int) (h : 0 ≤ v) : shl v = dg 19 v := by simp only [shl]; rw [if_neg (by omega)]
theorem str_append (a b : List Int) : strOfNums (a ++ b) = strOfNums a ++ strOfNums b := by
  apply ByteArray.ext
  apply Array.toList_inj.1
  simp [strOfNums_data, ByteArray.data_append]
theorem str_tilde (l : List Int) : (⟨#[126]⟩ : ByteArray) ++ strOfNums l = strOfNums (126 :: l) := by
  have h := str_append [126] l
  simp only [List.cons_append, List.nil_append] at h
  rw [h]
  rfl
theorem shl_byte (v : Int) (h0 : -4611686018427387904 ≤ v) : ∀ d ∈ shl v, 0 ≤ d ∧ d ≤ 255 := by
  intro d hd
  by_cases h : v < 0
  · rw [shl_neg v h] at hd
    rcases List.mem_cons.1 hd with rfl | hd
    · omega
    · have := dg_digit 19 (-v) (by omega) d hd; omega
  · rw [shl_pos v (by omega)] at hd
    have := dg_digit 19 v (by omega) d hd; omega
theorem shw_size (v : Int) : (shw v).size = (shl v).length := strOfNums_size _
theorem shl_length (v : Int) : 1 ≤ (shl v).length ∧ (shl v).length ≤ 20 := by
  by_cases h : v < 0
  · rw [shl_neg v h]; have := dg_length 19 (-v); simp; omega
  · rw [shl_pos v (by omega)]; exact ⟨dg_ne 18 v, by have := dg_length 19 v; omega⟩
theorem shw_at (v : Int) (h0 : -4611686018427387904 ≤ v) (i : Nat) (h : i < (shw v).size) : (((shw v)[i]'h).toNat : Int) = (shl v).getD i 0 := by
  have hi : i < (shl v).length := by rw [← shw_size]; exact h
  have hb := shl_byte v h0 _ (List.getElem_mem hi)
  have e : (shw v)[i]'h = UInt8.ofNat ((shl v)[i]).toNat := by
    show ((shw v).data)[i]'_ = _
    simp [shw, strOfNums]
  rw [e]
  simp only [List.getD, List.getElem?_eq_getElem hi, Option.getD_some, UInt8.toNat_ofNat']
  omega
end Go.Proofs.Ytgcojmjllpjefaa
