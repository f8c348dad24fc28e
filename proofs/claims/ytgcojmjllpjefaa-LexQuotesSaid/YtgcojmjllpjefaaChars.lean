/- The contracts of the small functions: a word's token, a byte of a string. -/
import Derived.Test.YtgcojmjllpjefaaKey
import Derived.Test.YtgcojmjllpjefaaSpan
import Derived.Test.YtgcojmjllpjefaaStep
namespace Go.Proofs.Ytgcojmjllpjefaa
open Go.RowKit Go.Proofs.LexMath

def tokV (t : Tok) : Value := .agg #[.int .i64 t.kind, .string t.text, .int .i64 t.num, .int .i64 t.at_]
theorem ret_tok {k k' : Int} {s : Value} (h : k = k') : Ending.returned (.agg #[.int .i64 k, s, .int .i64 0, .int .i64 0]) = .returned (.agg #[.int .i64 k', s, .int .i64 0, .int .i64 0]) := by rw [h]
theorem keyOr_any (k : Int) (s : ByteArray) (w : World) :
    Calls Try.prog 51 #[.int .i64 k, .string s] w fun e w' => e = .returned (tokV ⟨if key s.data.toList = true then 6 else k, s, 0, 0⟩) ∧ Below w.heap.size w w' := by
  cases hk : key s.data.toList with
  | true =>
    have C := key_any s
    rw [hk] at C
    have HC := Lib.hid C
    clear C hk
    go_enter Try.func51, Try.ntmps51
    go_wp2_with (go_at_call 24; refine (HC.out _).mono ?_; rintro e w1 ⟨rfl, rfl⟩)
    exact bodyPost_ret (v := .agg #[.int .i64 6, .string s, .int .i64 0, .int .i64 0]) (by simp [results, Try.results51, go_sem]) rfl ⟨rfl, (Below.refl _ _).alloc (Nat.le_refl _) _⟩
  | false =>
    have C := key_any s
    rw [hk] at C
    have HC := Lib.hid C
    clear C hk
    go_enter Try.func51, Try.ntmps51
    go_wp2_with (go_at_call 24; refine (HC.out _).mono ?_; rintro e w1 ⟨rfl, rfl⟩)
    exact bodyPost_ret (v := .agg #[.int .i64 k, .string s, .int .i64 0, .int .i64 0]) (by simp [results, Try.results51, go_sem]) rfl ⟨rfl, (Below.refl _ _).alloc (Nat.le_refl _) _⟩
theorem call32 (vs : Array Value) (w : World) : (callFunc 32 vs).run Try.prog w = .ok (.enter 32 vs) w := run_callFunc Try.func32 (by kernel_rfl) (by kernel_rfl) vs w
/-- A block that holds a token. -/
def TokBlk (w : World) (g : Nat) (t : Tok) : Prop := w.heap[g]? = some (.cells #[.int .i64 t.kind, .string t.text, .int .i64 t.num, .int .i64 t.at_] 37 (0, 0))
theorem TokBlk.lt {w : World} {g : Nat} {t : Tok} (h : TokBlk w g t) : g < w.heap.size := (Array.getElem?_eq_some_iff.1 h).1
theorem TokBlk.below {w w' : World} {g B : Nat} {t : Tok} (h : TokBlk w g t) (b : Below B w w') (hg : g < B) : TokBlk w' g t := (b.block g hg).trans h
theorem TokBlk.facts {w : World} {g : Nat} {t : Tok} (h : TokBlk w g t) :
    (w.cell? ⟨g, 0, none⟩ = some (.int .i64 t.kind) ∧ w.cell? ⟨g, 1, none⟩ = some (.string t.text) ∧ w.cell? ⟨g, 2, none⟩ = some (.int .i64 t.num) ∧ w.cell? ⟨g, 3, none⟩ = some (.int .i64 t.at_)) ∧
    (w.frozen? ⟨g, 0, none⟩ = false ∧ w.frozen? ⟨g, 1, none⟩ = false ∧ w.frozen? ⟨g, 2, none⟩ = false ∧ w.frozen? ⟨g, 3, none⟩ = false) :=
  ⟨⟨cell_of_row w g 0 _ _ _ h, cell_of_row w g 1 _ _ _ h, cell_of_row w g 2 _ _ _ h, cell_of_row w g 3 _ _ _ h⟩, ⟨frozen_of_row w g 0 _ _ h, frozen_of_row w g 1 _ _ h, frozen_of_row w g 2 _ _ h, frozen_of_row w g 3 _ _ h⟩⟩
theorem TokBlk.new (w : World) : TokBlk (w.alloc (.cells #[.int .i64 0, .string ⟨#[]⟩, .int .i64 0, .int .i64 0] 37)) w.heap.size ⟨0, ⟨#[]⟩, 0, 0⟩ := heap_alloc_new w _
set_option maxHeartbeats 1000000 in
theorem named_any (s : ByteArray) (w : World) (h : 0 < s.size) :
    Calls Try.prog 47 #[.string s] w fun e w' => e = .returned (tokV ⟨if key s.data.toList = true then 6 else if low (s[0].toNat : Nat) = true then 1 else 2, s, 0, 0⟩) ∧ Below w.heap.size w w' := by
  have hb : (s[0].toNat : Int) ≤ 255 := by have := s[0].toNat_lt; omega
  have hwr : IntKind.i32.wrap (s[0].toNat : Int) = s[0].toNat := IntWalk.i32_in _ (by omega)
  have Z := TokBlk.new w
  have BA : Hid (Below w.heap.size w (w.alloc (.cells #[.int .i64 0, .string ⟨#[]⟩, .int .i64 0, .int .i64 0] 37)).drew) := ((Below.refl _ _).alloc (Nat.le_refl _) _).drew
  have Z0 : Hid (TokBlk (w.alloc (.cells #[.int .i64 0, .string ⟨#[]⟩, .int .i64 0, .int .i64 0] 37)).drew w.heap.size ⟨0, ⟨#[]⟩, 0, 0⟩) := Z
  clear Z
  cases hl : low (s[0].toNat : Nat) with
  | true =>
    have HLo := Lib.hid hl
    clear hl
    have C := keyOr_any 1 s
    show Calls Try.prog 47 #[.string s] w fun e w' => e = .returned (tokV ⟨if key s.data.toList = true then 6 else 1, s, 0, 0⟩) ∧ Below w.heap.size w w'
    generalize (if key s.data.toList = true then (6 : Int) else 1) = kd at C ⊢
    have HC := Lib.hid C
    clear C
    go_enter Try.func47, Try.ntmps47
    go_wp2
    go_region_law ((first | (refine step_call_fn (by rfl) 32 #[] #[] (by rfl) call32 #[] (by simp) ?_; refine (lowers_any _).mono ?_; rintro e w1 ⟨v1, rfl, c1, b1⟩; refine ⟨_, rfl, ?_⟩; have B1 := Lib.hid b1; clear b1; obtain ⟨f, caps, hv, hf, hcl⟩ := c1; subst hv; have HL := Lib.hid hcl; have HW := Lib.hid hf; clear hcl hf) | (refine step_call_slot (by rfl) 3 #[.tmp 6] #[21] (by rfl) f caps (by rfl) HW.out (#[.int .i32 (s[0].toNat : Nat)] ++ caps) (by simp [go_sem]) ?_; refine (HL.out _ _ (by first | exact Below.refl _ _ | exact (Below.refl _ _).drew)).mono ?_; rintro e w2 ⟨rfl, b2⟩; refine ⟨_, rfl, ?_⟩; have B2 := Lib.hid b2; clear b2)))
    all_goals
      have hz := Z0.out.lt
      have C1 := Lib.hid (B1.out.trans (B2.out.mono B1.out.size))
      have ZW := Lib.hid (Z0.out.below C1.out hz)
      have BW := Lib.hid (BA.out.trans (C1.out.mono BA.out.size))
      rw [HLo.out]
      clear B1 B2 C1 hz hb hwr
      go_wp2_with (go_at_call 51; refine (HC.out _).mono ?_; rintro e w3 ⟨rfl, b3⟩; unfold tokV; have ⟨⟨q1, q2, q3, q4⟩, ⟨f1, f2, f3, f4⟩⟩ := (ZW.out.below b3 ZW.out.lt).facts)
      refine bodyPost_ret (v := tokV ⟨kd, s, 0, 0⟩) (by simp [results, Try.results47, go_sem, tokV, q1, q2, q3, q4]) rfl ⟨rfl, ?_⟩
      exact ((((BW.out.trans (b3.mono BW.out.size)).setCell (Nat.le_refl _) _).setCell (Nat.le_refl _) _).setCell (Nat.le_refl _) _).setCell (Nat.le_refl _) _
  | false =>
    have HLo := Lib.hid hl
    clear hl
    have C := keyOr_any 2 s
    show Calls Try.prog 47 #[.string s] w fun e w' => e = .returned (tokV ⟨if key s.data.toList = true then 6 else 2, s, 0, 0⟩) ∧ Below w.heap.size w w'
    generalize (if key s.data.toList = true then (6 : Int) else 2) = kd at C ⊢
    have HC := Lib.hid C
    clear C
    go_enter Try.func47, Try.ntmps47
    go_wp2
    go_region_law ((first | (refine step_call_fn (by rfl) 32 #[] #[] (by rfl) call32 #[] (by simp) ?_; refine (lowers_any _).mono ?_; rintro e w1 ⟨v1, rfl, c1, b1⟩; refine ⟨_, rfl, ?_⟩; have B1 := Lib.hid b1; clear b1; obtain ⟨f, caps, hv, hf, hcl⟩ := c1; subst hv; have HL := Lib.hid hcl; have HW := Lib.hid hf; clear hcl hf) | (refine step_call_slot (by rfl) 3 #[.tmp 6] #[21] (by rfl) f caps (by rfl) HW.out (#[.int .i32 (s[0].toNat : Nat)] ++ caps) (by simp [go_sem]) ?_; refine (HL.out _ _ (by first | exact Below.refl _ _ | exact (Below.refl _ _).drew)).mono ?_; rintro e w2 ⟨rfl, b2⟩; refine ⟨_, rfl, ?_⟩; have B2 := Lib.hid b2; clear b2)))
    all_goals
      have hz := Z0.out.lt
      have C1 := Lib.hid (B1.out.trans (B2.out.mono B1.out.size))
      have ZW := Lib.hid (Z0.out.below C1.out hz)
      have BW := Lib.hid (BA.out.trans (C1.out.mono BA.out.size))
      rw [HLo.out]
      clear B1 B2 C1 hz hb hwr
      go_wp2_with (go_at_call 51; refine (HC.out _).mono ?_; rintro e w3 ⟨rfl, b3⟩; unfold tokV; have ⟨⟨q1, q2, q3, q4⟩, ⟨f1, f2, f3, f4⟩⟩ := (ZW.out.below b3 ZW.out.lt).facts)
      refine bodyPost_ret (v := tokV ⟨kd, s, 0, 0⟩) (by simp [results, Try.results47, go_sem, tokV, q1, q2, q3, q4]) rfl ⟨rfl, ?_⟩
      exact ((((BW.out.trans (b3.mono BW.out.size)).setCell (Nat.le_refl _) _).setCell (Nat.le_refl _) _).setCell (Nat.le_refl _) _).setCell (Nat.le_refl _) _
theorem plain_any (c : Int) (w : World) : Calls Try.prog 43 #[.int .u8 c] w fun e w' => e = .returned (.bool (pln c)) ∧ w = w' := by
  by_cases h : 32 ≤ c
  · have h1 : decide (32 ≤ c) = true := by simpa using h
    go_enter Try.func43, Try.ntmps43
    go_wp2
    go_ret
    exact ⟨ret_bool (by simp [pln, h]), rfl⟩
  · have h1 : decide (32 ≤ c) = false := by simpa using h
    go_enter Try.func43, Try.ntmps43
    go_wp2
    go_ret
    exact ⟨ret_bool (by simp [pln]; omega), rfl⟩
def hexs : Bs := [48, 49, 50, 51, 52, 53, 54, 55, 56, 57, 97, 98, 99, 100, 101, 102]
theorem hex_any (r : Int) : hexs.any (fun c => iv c == r) = decide (0 ≤ hexv r) := by
  rw [Bool.eq_iff_iff]
  simp only [hexs, List.any_cons, List.any_nil, Bool.or_false, Bool.or_eq_true, beq_iff_eq, decide_eq_true_eq]
  have e : iv 48 = 48 ∧ iv 49 = 49 ∧ iv 50 = 50 ∧ iv 51 = 51 ∧ iv 52 = 52 ∧ iv 53 = 53 ∧ iv 54 = 54 ∧ iv 55 = 55 ∧ iv 56 = 56 ∧ iv 57 = 57 ∧ iv 97 = 97 ∧ iv 98 = 98 ∧ iv 99 = 99 ∧ iv 100 = 100 ∧ iv 101 = 101 ∧ iv 102 = 102 := by decide
  obtain ⟨e1, e2, e3, e4, e5, e6, e7, e8, e9, e10, e11, e12, e13, e14, e15, e16⟩ := e
  rw [e1, e2, e3, e4, e5, e6, e7, e8, e9, e10, e11, e12, e13, e14, e15, e16]
  unfold hexv
  split
  · omega
  · split <;> omega
theorem isHex_any (c : Int) (w : World) (h0 : 0 ≤ c) (h1 : c ≤ 255) : Calls Try.prog 67 #[.int .u8 c] w fun e w' => e = .returned (.bool (decide (0 ≤ hexv c))) ∧ Below w.heap.size w w' := by
  go_enter Try.func67, Try.ntmps67
  go_wp2_with fail
  refine (oneOf_any _ _ (by decide) (by decide)).mono ?_
  rintro e w1 ⟨v1, rfl, c1, b1⟩
  obtain ⟨f, caps, rfl, hf, hcl⟩ := c1
  have HW := Lib.hid hf
  have HL := Lib.hid (hcl c w1 (Below.refl _ _))
  clear hf hcl
  go_wp2_with ((refine wpList_call_slot (o := ⟨some 6, _, _, _, _, _⟩) rfl 3 _ _ rfl f caps rfl HW.out (#[.int .i32 c] ++ caps) (by simp [go_sem]) ?_; refine HL.out.mono ?_; rintro e w2 ⟨rfl, hs⟩; refine ⟨_, rfl, ?_⟩; simp only [Act.put, List.setIfInBounds_toArray, List.set_cons_succ, List.set_cons_zero]; have HS := Lib.hid hs; clear hs))
  go_ret
  exact ⟨ret_bool (hex_any c), b1.trans (HS.out.mono b1.size)⟩
theorem hexValue_any (c : Int) (w : World) (h : 0 ≤ hexv c) : Calls Try.prog 68 #[.int .u8 c] w fun e w' => e = .returned (.int .u8 (hexv c)) ∧ w = w' := by
  unfold hexv at h ⊢
  by_cases h1 : 48 ≤ c ∧ c ≤ 57
  · rw [if_pos h1]
    obtain ⟨h1, h2⟩ := h1
    clear h
    go_enter Try.func68, Try.ntmps68
    go_wp2
    go_ret
    exact ⟨rfl, rfl⟩
  · rw [if_neg h1] at h ⊢
    by_cases h2 : 97 ≤ c ∧ c ≤ 102
    · rw [if_pos h2]
      obtain ⟨h2, h3⟩ := h2
      clear h h1
      go_enter Try.func68, Try.ntmps68
      go_wp2
      go_ret
      refine ⟨ret_int ?_, rfl⟩
      omega
    · rw [if_neg h2] at h
      omega
end Go.Proofs.Ytgcojmjllpjefaa
