/- The contract of the document's own one: the token at a place. -/
import Derived.Test.YtgcojmjllpjefaaRefLit
import Derived.Test.YtgcojmjllpjefaaRefYes
namespace Go.Proofs.Ytgcojmjllpjefaa
open Go.RowKit Go.Proofs.LexMath

def oneR (at_ : Nat) : One → Tok × Int × Int
  | .tok k t v n => (⟨k, bs t, v, at_⟩, ((at_ + n : Nat) : Int), 0)
  | .err e => (⟨0, ⟨#[]⟩, 0, 0⟩, 0, e)
theorem oneR_ok {at_ : Nat} {l : Bs} {t : Tok} {n : Int} (h : oneV at_ (one l) = (t, n, 0)) : oneR at_ (one l) = (⟨t.kind, t.text, t.num, at_⟩, n, 0) := by
  cases ho : one l with
  | tok k x v m =>
    rw [ho] at h
    simp only [oneV, Prod.mk.injEq] at h
    obtain ⟨h1, h2, _⟩ := h
    subst h1 h2
    rfl
  | err e =>
    have := one_err ho
    rw [ho] at h
    simp only [oneV, Prod.mk.injEq] at h
    omega
theorem oneR_err {at_ : Nat} {l : Bs} {t : Tok} {n e : Int} (h : oneV at_ (one l) = (t, n, e)) (he : ¬ e = 0) : oneR at_ (one l) = (t, n, e) := by
  cases ho : one l with
  | tok k x v m =>
    rw [ho] at h
    simp only [oneV, Prod.mk.injEq] at h
    exact absurd h.2.2.symm he
  | err e =>
    rw [ho] at h
    exact h
def numR : Option Int → Int × Bool
  | none => (0, false)
  | some v => (v, true)
theorem rread_any (d : ByteArray) (w : World) (hs : d.size ≤ 100000) : Calls Try.prog 53 #[.string d] w fun e w' => e = .returned (.tuple #[.int .i64 (numR (num? d.data.toList)).1, .bool (numR (num? d.data.toList)).2]) ∧ Below w.heap.size w w' := by
  cases h : num? d.data.toList with
  | none =>
    have := num_none h
    rw [bs_of] at this
    exact rread_no d w this hs
  | some v =>
    obtain ⟨⟨h1, h2⟩, h3⟩ := num_some h
    have e : shw v = d := list_inj h3
    rw [← e]
    exact rread_yes v w h1 h2
theorem kind_low {c : Int} (h : low c = true) : kindN c = 1 := by
  have : opr c = false := by
    rw [Bool.eq_false_iff]; intro g
    simp [low] at h; simp [opr] at g; omega
  simp [kindN, this, h]
theorem kind_upp {c : Int} (h : upp c = true) : kindN c = 2 := by
  have h1 : opr c = false := by
    rw [Bool.eq_false_iff]; intro g
    simp [upp] at h; simp [opr] at g; omega
  have h2 : low c = false := by
    rw [Bool.eq_false_iff]; intro g
    simp [upp] at h; simp [low] at g; omega
  simp [kindN, h1, h2, h]
theorem kind_opr {c : Int} (h : opr c = true) : kindN c = 5 := by simp [kindN, h]
theorem kind_dgt {c : Int} (h : dgt c = true) : kindN c = 3 := by
  have h1 : opr c = false := by
    rw [Bool.eq_false_iff]; intro g
    simp [dgt] at h; simp [opr] at g; omega
  have h2 : low c = false := by
    rw [Bool.eq_false_iff]; intro g
    simp [dgt] at h; simp [low] at g; omega
  have h3 : upp c = false := by
    rw [Bool.eq_false_iff]; intro g
    simp [dgt] at h; simp [upp] at g; omega
  simp [kindN, h1, h2, h3, h]
theorem kind_rest {c : Int} (h1 : ltr c = false) (h2 : dgt c = false) (h3 : opr c = false) : kindN c = if c = 95 ∨ c = 39 then 4 else 0 := by
  simp [ltr] at h1
  simp [kindN, h1, h2, h3]
theorem from_at (p : Int → Bool) (s : ByteArray) (k : Nat) (hk : k < s.size) (h : p (s[k].toNat : Int) = true) : k + run p (s.data.toList.drop k) = k + 1 + run p (s.data.toList.drop (k + 1)) := (run_at p s k hk).1 h
set_option maxRecDepth 100000 in
set_option maxHeartbeats 1000000 in
theorem one_low (s : ByteArray) (at_ : Nat) (w : World) (hat : at_ < s.size) (hs : s.size ≤ 100000) (hc : low (iv s[at_]) = true) :
    Calls Try.prog 30 #[.string s, .int .i64 at_] w (TRes (oneR at_ (one (s.data.toList.drop at_))) w) := by
  have hl : ltr (iv s[at_]) = true := cls_low hc
  have hlow : low (s[at_].toNat : Int) = true := hc
  have hp : tl (s[at_].toNat : Int) = true := by have : ltr (s[at_].toNat : Int) = true := hl; simp [tl, this]
  have E := oneR_ok (tok_ltr s at_ hat hl _ rfl)
  rw [hlow] at E
  simp only [if_true]  at E
  have I := fun W => is_any (s[at_].toNat : Int) W
  rw [show kindN (s[at_].toNat : Int) = 1 from kind_low hc] at I
  have II := Lib.hid I
  clear I
  have hn := run_fits tl s at_ hat
  have hm : at_ + 1 ≤ at_ + 1 + run tl (s.data.toList.drop (at_ + 1)) := Nat.le_add_right _ _
  have S := fun W => while_any s at_ 1 4 W (by omega) (by omega)
  rw [kp_tl, from_at tl s at_ hat hp] at S
  generalize hdd : s.extract at_ (at_ + 1 + run tl (s.data.toList.drop (at_ + 1))) = d at *
  generalize at_ + 1 + run tl (s.data.toList.drop (at_ + 1)) = m at *
  have SS := Lib.hid S
  have hcut := cut_run s at_ m (by omega) hn d hdd
  clear S hdd
  have N := fun W => named_ref d 1 at_ W
  generalize (if key d.data.toList = true then (6 : Int) else 1) = kd at *
  have NN := Lib.hid N
  have EE := Lib.hid E
  clear N E hc hl hlow hp
  go_enter Try.func30, Try.ntmps30
  go_wp2_with fail
  refine (II.out _).mono ?_
  rintro e w1 ⟨rfl, rfl⟩
  go_wp2_with fail
  refine (SS.out _).mono ?_
  rintro e w1 ⟨rfl, rfl⟩
  go_wp2_with fail
  refine (NN.out _).mono ?_
  rintro e w5 ⟨rfl, b5⟩
  have BB : Hid (Below (tok0 w).heap.size (tok0 w) w5) := Lib.hid b5
  unfold tokV
  clear b5
  have ⟨⟨q1, q2, q3, q4⟩, ⟨f1, f2, f3, f4⟩⟩ := tok0_facts BB.out
  go_wp2
  refine bodyPost_ret (v := .tuple #[tokV ⟨kd, d, 0, at_⟩, .int .i64 m, .int .i64 0]) (by simp [results, Try.results30, go_sem, tokV, q1, q2, q3, q4]) rfl ⟨ret_tres EE.out, ?_⟩
  exact ((((tok0_below BB.out).setCell (Nat.le_refl _) _).setCell (Nat.le_refl _) _).setCell (Nat.le_refl _) _).setCell (Nat.le_refl _) _
set_option maxRecDepth 100000 in
set_option maxHeartbeats 1000000 in
theorem one_upp (s : ByteArray) (at_ : Nat) (w : World) (hat : at_ < s.size) (hs : s.size ≤ 100000) (hc : upp (iv s[at_]) = true) :
    Calls Try.prog 30 #[.string s, .int .i64 at_] w (TRes (oneR at_ (one (s.data.toList.drop at_))) w) := by
  have hl : ltr (iv s[at_]) = true := (cls_upp hc).1
  have hlow : low (s[at_].toNat : Int) = false := (cls_upp hc).2
  have hp : tl (s[at_].toNat : Int) = true := by have : ltr (s[at_].toNat : Int) = true := hl; simp [tl, this]
  have E := oneR_ok (tok_ltr s at_ hat hl _ rfl)
  rw [hlow] at E
  simp only [Bool.false_eq_true, if_false] at E
  have I := fun W => is_any (s[at_].toNat : Int) W
  rw [show kindN (s[at_].toNat : Int) = 2 from kind_upp hc] at I
  have II := Lib.hid I
  clear I
  have hn := run_fits tl s at_ hat
  have hm : at_ + 1 ≤ at_ + 1 + run tl (s.data.toList.drop (at_ + 1)) := Nat.le_add_right _ _
  have S := fun W => while_any s at_ 1 4 W (by omega) (by omega)
  rw [kp_tl, from_at tl s at_ hat hp] at S
  generalize hdd : s.extract at_ (at_ + 1 + run tl (s.data.toList.drop (at_ + 1))) = d at *
  generalize at_ + 1 + run tl (s.data.toList.drop (at_ + 1)) = m at *
  have SS := Lib.hid S
  have hcut := cut_run s at_ m (by omega) hn d hdd
  clear S hdd
  have N := fun W => named_ref d 2 at_ W
  generalize (if key d.data.toList = true then (6 : Int) else 2) = kd at *
  have NN := Lib.hid N
  have EE := Lib.hid E
  clear N E hc hl hlow hp
  go_enter Try.func30, Try.ntmps30
  go_wp2_with fail
  refine (II.out _).mono ?_
  rintro e w1 ⟨rfl, rfl⟩
  go_wp2_with fail
  refine (SS.out _).mono ?_
  rintro e w1 ⟨rfl, rfl⟩
  go_wp2_with fail
  refine (NN.out _).mono ?_
  rintro e w5 ⟨rfl, b5⟩
  have BB : Hid (Below (tok0 w).heap.size (tok0 w) w5) := Lib.hid b5
  unfold tokV
  clear b5
  have ⟨⟨q1, q2, q3, q4⟩, ⟨f1, f2, f3, f4⟩⟩ := tok0_facts BB.out
  go_wp2
  refine bodyPost_ret (v := .tuple #[tokV ⟨kd, d, 0, at_⟩, .int .i64 m, .int .i64 0]) (by simp [results, Try.results30, go_sem, tokV, q1, q2, q3, q4]) rfl ⟨ret_tres EE.out, ?_⟩
  exact ((((tok0_below BB.out).setCell (Nat.le_refl _) _).setCell (Nat.le_refl _) _).setCell (Nat.le_refl _) _).setCell (Nat.le_refl _) _
set_option maxRecDepth 100000 in
set_option maxHeartbeats 1000000 in
theorem one_opr (s : ByteArray) (at_ : Nat) (w : World) (hat : at_ < s.size) (hs : s.size ≤ 100000) (hc : opr (iv s[at_]) = true) :
    Calls Try.prog 30 #[.string s, .int .i64 at_] w (TRes (oneR at_ (one (s.data.toList.drop at_))) w) := by
  have hp : opr (s[at_].toNat : Int) = true := hc
  have E := oneR_ok (tok_opr s at_ hat hc _ rfl)
  have I := fun W => is_any (s[at_].toNat : Int) W
  rw [show kindN (s[at_].toNat : Int) = 5 from kind_opr hc] at I
  have II := Lib.hid I
  clear I
  have hn := run_fits opr s at_ hat
  have hm : at_ + 1 ≤ at_ + 1 + run opr (s.data.toList.drop (at_ + 1)) := Nat.le_add_right _ _
  have S := fun W => while_any s at_ 5 5 W (by omega) (by omega)
  rw [kp_opr, from_at opr s at_ hat hp] at S
  generalize hdd : s.extract at_ (at_ + 1 + run opr (s.data.toList.drop (at_ + 1))) = d at *
  generalize at_ + 1 + run opr (s.data.toList.drop (at_ + 1)) = m at *
  have SS := Lib.hid S
  have hcut := cut_run s at_ m (by omega) hn d hdd
  clear S hdd
  have N := fun W => named_ref d 5 at_ W
  generalize (if key d.data.toList = true then (6 : Int) else 5) = kd at *
  have NN := Lib.hid N
  have EE := Lib.hid E
  clear N E hc hp
  go_enter Try.func30, Try.ntmps30
  go_wp2_with fail
  refine (II.out _).mono ?_
  rintro e w1 ⟨rfl, rfl⟩
  go_wp2_with fail
  refine (SS.out _).mono ?_
  rintro e w1 ⟨rfl, rfl⟩
  go_wp2_with fail
  refine (NN.out _).mono ?_
  rintro e w5 ⟨rfl, b5⟩
  have BB : Hid (Below (tok0 w).heap.size (tok0 w) w5) := Lib.hid b5
  unfold tokV
  clear b5
  have ⟨⟨q1, q2, q3, q4⟩, ⟨f1, f2, f3, f4⟩⟩ := tok0_facts BB.out
  go_wp2
  refine bodyPost_ret (v := .tuple #[tokV ⟨kd, d, 0, at_⟩, .int .i64 m, .int .i64 0]) (by simp [results, Try.results30, go_sem, tokV, q1, q2, q3, q4]) rfl ⟨ret_tres EE.out, ?_⟩
  exact ((((tok0_below BB.out).setCell (Nat.le_refl _) _).setCell (Nat.le_refl _) _).setCell (Nat.le_refl _) _).setCell (Nat.le_refl _) _
set_option maxRecDepth 100000 in
set_option maxHeartbeats 1000000 in
theorem one_tilde (s : ByteArray) (at_ : Nat) (w : World) (hat : at_ < s.size) (hs : s.size ≤ 100000) (hc : iv s[at_] = 126) :
    Calls Try.prog 30 #[.string s, .int .i64 at_] w (TRes (oneR at_ (one (s.data.toList.drop at_))) w) := by
  have h1 : ltr (iv s[at_]) = false := by rw [hc]; rfl
  have E := tok_num s at_ hat h1 (.inl hc) _ rfl
  have t1 := test_iv hc
  have I := fun W => is_any (s[at_].toNat : Int) W
  rw [show kindN (s[at_].toNat : Int) = 0 from (by rw [show (s[at_].toNat : Int) = 126 from hc]; rfl)] at I
  have II := Lib.hid I
  clear I
  have hn := run_fits dgt s at_ hat
  have hm : at_ + 1 ≤ at_ + 1 + run dgt (s.data.toList.drop (at_ + 1)) := Nat.le_add_right _ _
  have S := fun W => while_any s (at_ + 1) 3 3 W (by omega) (by omega)
  rw [kp_dgt] at S
  have hcs : (s.extract at_ (at_ + 1 + run dgt (s.data.toList.drop (at_ + 1)))).size ≤ s.size := by rw [(cut_form s at_ _ hat hn).2]; omega
  generalize hdd : s.extract at_ (at_ + 1 + run dgt (s.data.toList.drop (at_ + 1))) = d at *
  generalize at_ + 1 + run dgt (s.data.toList.drop (at_ + 1)) = m at *
  have SS := Lib.hid S
  have hcut := cut_run s at_ m (by omega) hn d hdd
  clear S hdd
  have R := fun W => rread_any d W (by omega)
  clear h1 hc
  cases hq : num? d.data.toList with
  | none =>
    rw [hq] at R E
    have RR := Lib.hid R
    have EE := Lib.hid (oneR_err E (by omega))
    clear R E hq
    simp only [numR] at RR
    go_enter Try.func30, Try.ntmps30
    go_wp2_with fail
    refine (II.out _).mono ?_
    rintro e w1 ⟨rfl, rfl⟩
    go_wp2_with fail
    refine (SS.out _).mono ?_
    rintro e w1 ⟨rfl, rfl⟩
    go_wp2_with fail
    refine (RR.out _).mono ?_
    rintro e w9 ⟨rfl, b9⟩
    have BB : Hid (Below (tok0 w).heap.size (tok0 w) w9) := Lib.hid b9
    clear b9
    have ⟨⟨q1, q2, q3, q4⟩, ⟨f1, f2, f3, f4⟩⟩ := tok0_facts BB.out
    go_wp2
    refine bodyPost_ret (v := .tuple #[tokV ⟨0, ⟨#[]⟩, 0, 0⟩, .int .i64 0, .int .i64 31]) (by simp [results, Try.results30, go_sem, tokV, q1, q2, q3, q4]) rfl ⟨ret_tres EE.out, ?_⟩
    exact ((((tok0_below BB.out).setCell (Nat.le_refl _) _).setCell (Nat.le_refl _) _).setCell (Nat.le_refl _) _).setCell (Nat.le_refl _) _
  | some v =>
    rw [hq] at R E
    have RR := Lib.hid R
    have EE := Lib.hid (oneR_ok E)
    clear R E hq
    simp only [numR] at RR
    go_enter Try.func30, Try.ntmps30
    go_wp2_with fail
    refine (II.out _).mono ?_
    rintro e w1 ⟨rfl, rfl⟩
    go_wp2_with fail
    refine (SS.out _).mono ?_
    rintro e w1 ⟨rfl, rfl⟩
    go_wp2_with fail
    refine (RR.out _).mono ?_
    rintro e w9 ⟨rfl, b9⟩
    have BB : Hid (Below (tok0 w).heap.size (tok0 w) w9) := Lib.hid b9
    clear b9
    have ⟨⟨q1, q2, q3, q4⟩, ⟨f1, f2, f3, f4⟩⟩ := tok0_facts BB.out
    go_wp2
    refine bodyPost_ret (v := .tuple #[tokV ⟨3, ⟨#[]⟩, v, at_⟩, .int .i64 m, .int .i64 0]) (by simp [results, Try.results30, go_sem, tokV, q1, q2, q3, q4]) rfl ⟨ret_tres EE.out, ?_⟩
    exact ((((tok0_below BB.out).setCell (Nat.le_refl _) _).setCell (Nat.le_refl _) _).setCell (Nat.le_refl _) _).setCell (Nat.le_refl _) _
set_option maxRecDepth 100000 in
set_option maxHeartbeats 1000000 in
theorem one_digit (s : ByteArray) (at_ : Nat) (w : World) (hat : at_ < s.size) (hs : s.size ≤ 100000) (h1 : ltr (iv s[at_]) = false) (hc : dgt (iv s[at_]) = true) :
    Calls Try.prog 30 #[.string s, .int .i64 at_] w (TRes (oneR at_ (one (s.data.toList.drop at_))) w) := by
  have E := tok_num s at_ hat h1 (.inr hc) _ rfl
  have I := fun W => is_any (s[at_].toNat : Int) W
  rw [show kindN (s[at_].toNat : Int) = 3 from kind_dgt hc] at I
  have II := Lib.hid I
  clear I
  have hn := run_fits dgt s at_ hat
  have hm : at_ + 1 ≤ at_ + 1 + run dgt (s.data.toList.drop (at_ + 1)) := Nat.le_add_right _ _
  have S := fun W => while_any s (at_ + 1) 3 3 W (by omega) (by omega)
  rw [kp_dgt] at S
  have hcs : (s.extract at_ (at_ + 1 + run dgt (s.data.toList.drop (at_ + 1)))).size ≤ s.size := by rw [(cut_form s at_ _ hat hn).2]; omega
  generalize hdd : s.extract at_ (at_ + 1 + run dgt (s.data.toList.drop (at_ + 1))) = d at *
  generalize at_ + 1 + run dgt (s.data.toList.drop (at_ + 1)) = m at *
  have SS := Lib.hid S
  have hcut := cut_run s at_ m (by omega) hn d hdd
  clear S hdd
  have R := fun W => rread_any d W (by omega)
  clear h1 hc
  cases hq : num? d.data.toList with
  | none =>
    rw [hq] at R E
    have RR := Lib.hid R
    have EE := Lib.hid (oneR_err E (by omega))
    clear R E hq
    simp only [numR] at RR
    go_enter Try.func30, Try.ntmps30
    go_wp2_with fail
    refine (II.out _).mono ?_
    rintro e w1 ⟨rfl, rfl⟩
    go_wp2_with fail
    refine (SS.out _).mono ?_
    rintro e w1 ⟨rfl, rfl⟩
    go_wp2_with fail
    refine (RR.out _).mono ?_
    rintro e w9 ⟨rfl, b9⟩
    have BB : Hid (Below (tok0 w).heap.size (tok0 w) w9) := Lib.hid b9
    clear b9
    have ⟨⟨q1, q2, q3, q4⟩, ⟨f1, f2, f3, f4⟩⟩ := tok0_facts BB.out
    go_wp2
    refine bodyPost_ret (v := .tuple #[tokV ⟨0, ⟨#[]⟩, 0, 0⟩, .int .i64 0, .int .i64 31]) (by simp [results, Try.results30, go_sem, tokV, q1, q2, q3, q4]) rfl ⟨ret_tres EE.out, ?_⟩
    exact ((((tok0_below BB.out).setCell (Nat.le_refl _) _).setCell (Nat.le_refl _) _).setCell (Nat.le_refl _) _).setCell (Nat.le_refl _) _
  | some v =>
    rw [hq] at R E
    have RR := Lib.hid R
    have EE := Lib.hid (oneR_ok E)
    clear R E hq
    simp only [numR] at RR
    go_enter Try.func30, Try.ntmps30
    go_wp2_with fail
    refine (II.out _).mono ?_
    rintro e w1 ⟨rfl, rfl⟩
    go_wp2_with fail
    refine (SS.out _).mono ?_
    rintro e w1 ⟨rfl, rfl⟩
    go_wp2_with fail
    refine (RR.out _).mono ?_
    rintro e w9 ⟨rfl, b9⟩
    have BB : Hid (Below (tok0 w).heap.size (tok0 w) w9) := Lib.hid b9
    clear b9
    have ⟨⟨q1, q2, q3, q4⟩, ⟨f1, f2, f3, f4⟩⟩ := tok0_facts BB.out
    go_wp2
    refine bodyPost_ret (v := .tuple #[tokV ⟨3, ⟨#[]⟩, v, at_⟩, .int .i64 m, .int .i64 0]) (by simp [results, Try.results30, go_sem, tokV, q1, q2, q3, q4]) rfl ⟨ret_tres EE.out, ?_⟩
    exact ((((tok0_below BB.out).setCell (Nat.le_refl _) _).setCell (Nat.le_refl _) _).setCell (Nat.le_refl _) _).setCell (Nat.le_refl _) _
set_option maxRecDepth 100000 in
set_option maxHeartbeats 1000000 in
theorem one_txt (s : ByteArray) (at_ : Nat) (w : World) (hat : at_ < s.size) (hs : s.size ≤ 100000) (hc : iv s[at_] = 34) :
    Calls Try.prog 30 #[.string s, .int .i64 at_] w (TRes (oneR at_ (one (s.data.toList.drop at_))) w) := by
  have t1 : ((s[at_].toNat : Int) == 126) = false := test_iv' (by omega)
  have t2 := test_iv hc
  have E := tok_txt s at_ hat hc
  have C := fun W => text_any s at_ W hat hs
  have I := fun W => is_any (s[at_].toNat : Int) W
  rw [show kindN (s[at_].toNat : Int) = 0 from (by rw [show (s[at_].toNat : Int) = 34 from hc]; rfl)] at I
  have II := Lib.hid I
  clear I
  clear hc
  cases hq : str (s.data.toList.drop (at_ + 1)) with
  | none =>
    rw [hq] at C E
    simp only [txtV] at C
    simp only [litV, Bool.false_eq_true, if_false] at E
    have CC := Lib.hid C
    have EE := Lib.hid (oneR_err E (by omega))
    clear C E hq
    go_enter Try.func30, Try.ntmps30
    go_wp2_with fail
    refine (II.out _).mono ?_
    rintro e w1 ⟨rfl, rfl⟩
    go_wp2_with fail
    refine (CC.out _).mono ?_
    rintro e w9 ⟨rfl, b9⟩
    have BB : Hid (Below (tok0 w).heap.size (tok0 w) w9) := Lib.hid b9
    clear b9
    have ⟨⟨q1, q2, q3, q4⟩, ⟨f1, f2, f3, f4⟩⟩ := tok0_facts BB.out
    go_wp2
    refine bodyPost_ret (v := .tuple #[tokV ⟨0, ⟨#[]⟩, 0, 0⟩, .int .i64 0, .int .i64 32]) (by simp [results, Try.results30, go_sem, tokV, q1, q2, q3, q4]) rfl ⟨ret_tres EE.out, ?_⟩
    exact ((((tok0_below BB.out).setCell (Nat.le_refl _) _).setCell (Nat.le_refl _) _).setCell (Nat.le_refl _) _).setCell (Nat.le_refl _) _
  | some x =>
    obtain ⟨t, mm⟩ := x
    rw [hq] at C E
    simp only [txtV] at C
    have hsz1 : (bs t).size = t.length := by simp [bs, ByteArray.size]
    have hmb := str_size hq
    rw [List.length_drop] at hmb
    have hll : s.data.toList.length = s.size := rfl
    have hmb2 : at_ + 1 + mm ≤ s.size := by omega
    have hj := Lib.hid hsz1
    by_cases hg : t.length ≤ 200
    · simp only [litV, if_pos hg, if_true] at E
      have g1 : (bs t).size ≤ 200 := by omega
      generalize bs t = tt at *
      generalize at_ + 1 + mm = m at *
      have CC := Lib.hid C
      have EE := Lib.hid (oneR_ok E)
      clear C E hq hsz1 hmb hll
      go_enter Try.func30, Try.ntmps30
      go_wp2_with fail
      refine (II.out _).mono ?_
      rintro e w1 ⟨rfl, rfl⟩
      go_wp2_with fail
      refine (CC.out _).mono ?_
      rintro e w9 ⟨rfl, b9⟩
      have BB : Hid (Below (tok0 w).heap.size (tok0 w) w9) := Lib.hid b9
      clear b9
      have ⟨⟨q1, q2, q3, q4⟩, ⟨f1, f2, f3, f4⟩⟩ := tok0_facts BB.out
      go_wp2
      refine bodyPost_ret (v := .tuple #[tokV ⟨4, tt, 0, at_⟩, .int .i64 m, .int .i64 0]) (by simp [results, Try.results30, go_sem, tokV, q1, q2, q3, q4]) rfl ⟨ret_tres EE.out, ?_⟩
      exact ((((tok0_below BB.out).setCell (Nat.le_refl _) _).setCell (Nat.le_refl _) _).setCell (Nat.le_refl _) _).setCell (Nat.le_refl _) _
    · simp only [litV, if_neg hg, Bool.false_eq_true, if_false] at E
      have g1 : ¬ (bs t).size ≤ 200 := by omega
      generalize bs t = tt at *
      generalize at_ + 1 + mm = m at *
      have CC := Lib.hid C
      have EE := Lib.hid (oneR_err E (by omega))
      clear C E hq hsz1 hmb hll
      go_enter Try.func30, Try.ntmps30
      go_wp2_with fail
      refine (II.out _).mono ?_
      rintro e w1 ⟨rfl, rfl⟩
      go_wp2_with fail
      refine (CC.out _).mono ?_
      rintro e w9 ⟨rfl, b9⟩
      have BB : Hid (Below (tok0 w).heap.size (tok0 w) w9) := Lib.hid b9
      clear b9
      have ⟨⟨q1, q2, q3, q4⟩, ⟨f1, f2, f3, f4⟩⟩ := tok0_facts BB.out
      go_wp2
      refine bodyPost_ret (v := .tuple #[tokV ⟨0, ⟨#[]⟩, 0, 0⟩, .int .i64 0, .int .i64 32]) (by simp [results, Try.results30, go_sem, tokV, q1, q2, q3, q4]) rfl ⟨ret_tres EE.out, ?_⟩
      exact ((((tok0_below BB.out).setCell (Nat.le_refl _) _).setCell (Nat.le_refl _) _).setCell (Nat.le_refl _) _).setCell (Nat.le_refl _) _
set_option maxRecDepth 100000 in
set_option maxHeartbeats 1000000 in
theorem one_40 (s : ByteArray) (at_ : Nat) (w : World) (hat : at_ < s.size) (hs : s.size ≤ 100000) (hc : iv s[at_] = 40) :
    Calls Try.prog 30 #[.string s, .int .i64 at_] w (TRes (oneR at_ (one (s.data.toList.drop at_))) w) := by
  have t1 : ((s[at_].toNat : Int) == 126) = false := test_iv' (by omega)
  have t2 : ((s[at_].toNat : Int) == 34) = false := test_iv' (by omega)
  have t3 := test_iv hc
  have I := fun W => is_any (s[at_].toNat : Int) W
  rw [show kindN (s[at_].toNat : Int) = 0 from (by rw [show (s[at_].toNat : Int) = 40 from hc]; rfl)] at I
  have II := Lib.hid I
  clear I
  obtain ⟨E, hky⟩ := tok_sign s at_ hat (by omega) _ rfl
  generalize hdd : s.extract at_ (at_ + 1) = d at *
  have hcut := cut_run s at_ (at_ + 1) (by omega) (by omega) d hdd
  rw [show ((at_ + 1 : Nat) : Int) = (at_ : Int) + 1 from Int.natCast_add _ _] at hcut
  have N := fun W => named_ref d 6 at_ W
  rw [if_pos hky] at N
  have NN := Lib.hid N
  have EE := Lib.hid (oneR_ok E)
  clear N E hc hdd hky
  go_enter Try.func30, Try.ntmps30
  go_wp2_with fail
  refine (II.out _).mono ?_
  rintro e w1 ⟨rfl, rfl⟩
  go_wp2_with fail
  refine (NN.out _).mono ?_
  rintro e w5 ⟨rfl, b5⟩
  have BB : Hid (Below (tok0 w).heap.size (tok0 w) w5) := Lib.hid b5
  unfold tokV
  clear b5
  have ⟨⟨q1, q2, q3, q4⟩, ⟨f1, f2, f3, f4⟩⟩ := tok0_facts BB.out
  go_wp2
  refine bodyPost_ret (v := .tuple #[tokV ⟨6, d, 0, at_⟩, .int .i64 ((at_ + 1 : Nat) : Int), .int .i64 0]) (by simp [results, Try.results30, go_sem, tokV, q1, q2, q3, q4]) rfl ⟨ret_tres EE.out, ?_⟩
  exact ((((tok0_below BB.out).setCell (Nat.le_refl _) _).setCell (Nat.le_refl _) _).setCell (Nat.le_refl _) _).setCell (Nat.le_refl _) _
set_option maxRecDepth 100000 in
set_option maxHeartbeats 1000000 in
theorem one_41 (s : ByteArray) (at_ : Nat) (w : World) (hat : at_ < s.size) (hs : s.size ≤ 100000) (hc : iv s[at_] = 41) :
    Calls Try.prog 30 #[.string s, .int .i64 at_] w (TRes (oneR at_ (one (s.data.toList.drop at_))) w) := by
  have t1 : ((s[at_].toNat : Int) == 126) = false := test_iv' (by omega)
  have t2 : ((s[at_].toNat : Int) == 34) = false := test_iv' (by omega)
  have t3 : ((s[at_].toNat : Int) == 40) = false := test_iv' (by omega)
  have t4 := test_iv hc
  have I := fun W => is_any (s[at_].toNat : Int) W
  rw [show kindN (s[at_].toNat : Int) = 0 from (by rw [show (s[at_].toNat : Int) = 41 from hc]; rfl)] at I
  have II := Lib.hid I
  clear I
  obtain ⟨E, hky⟩ := tok_sign s at_ hat (by omega) _ rfl
  generalize hdd : s.extract at_ (at_ + 1) = d at *
  have hcut := cut_run s at_ (at_ + 1) (by omega) (by omega) d hdd
  rw [show ((at_ + 1 : Nat) : Int) = (at_ : Int) + 1 from Int.natCast_add _ _] at hcut
  have N := fun W => named_ref d 6 at_ W
  rw [if_pos hky] at N
  have NN := Lib.hid N
  have EE := Lib.hid (oneR_ok E)
  clear N E hc hdd hky
  go_enter Try.func30, Try.ntmps30
  go_wp2_with fail
  refine (II.out _).mono ?_
  rintro e w1 ⟨rfl, rfl⟩
  go_wp2_with fail
  refine (NN.out _).mono ?_
  rintro e w5 ⟨rfl, b5⟩
  have BB : Hid (Below (tok0 w).heap.size (tok0 w) w5) := Lib.hid b5
  unfold tokV
  clear b5
  have ⟨⟨q1, q2, q3, q4⟩, ⟨f1, f2, f3, f4⟩⟩ := tok0_facts BB.out
  go_wp2
  refine bodyPost_ret (v := .tuple #[tokV ⟨6, d, 0, at_⟩, .int .i64 ((at_ + 1 : Nat) : Int), .int .i64 0]) (by simp [results, Try.results30, go_sem, tokV, q1, q2, q3, q4]) rfl ⟨ret_tres EE.out, ?_⟩
  exact ((((tok0_below BB.out).setCell (Nat.le_refl _) _).setCell (Nat.le_refl _) _).setCell (Nat.le_refl _) _).setCell (Nat.le_refl _) _
set_option maxRecDepth 100000 in
set_option maxHeartbeats 1000000 in
theorem one_95 (s : ByteArray) (at_ : Nat) (w : World) (hat : at_ < s.size) (hs : s.size ≤ 100000) (hc : iv s[at_] = 95) :
    Calls Try.prog 30 #[.string s, .int .i64 at_] w (TRes (oneR at_ (one (s.data.toList.drop at_))) w) := by
  have t1 : ((s[at_].toNat : Int) == 126) = false := test_iv' (by omega)
  have t2 : ((s[at_].toNat : Int) == 34) = false := test_iv' (by omega)
  have t3 : ((s[at_].toNat : Int) == 40) = false := test_iv' (by omega)
  have t4 : ((s[at_].toNat : Int) == 41) = false := test_iv' (by omega)
  have t5 := test_iv hc
  have I := fun W => is_any (s[at_].toNat : Int) W
  rw [show kindN (s[at_].toNat : Int) = 4 from (by rw [show (s[at_].toNat : Int) = 95 from hc]; rfl)] at I
  have II := Lib.hid I
  clear I
  obtain ⟨E, hky⟩ := tok_sign s at_ hat (by omega) _ rfl
  generalize hdd : s.extract at_ (at_ + 1) = d at *
  have hcut := cut_run s at_ (at_ + 1) (by omega) (by omega) d hdd
  rw [show ((at_ + 1 : Nat) : Int) = (at_ : Int) + 1 from Int.natCast_add _ _] at hcut
  have N := fun W => named_ref d 6 at_ W
  rw [if_pos hky] at N
  have NN := Lib.hid N
  have EE := Lib.hid (oneR_ok E)
  clear N E hc hdd hky
  go_enter Try.func30, Try.ntmps30
  go_wp2_with fail
  refine (II.out _).mono ?_
  rintro e w1 ⟨rfl, rfl⟩
  go_wp2_with fail
  refine (NN.out _).mono ?_
  rintro e w5 ⟨rfl, b5⟩
  have BB : Hid (Below (tok0 w).heap.size (tok0 w) w5) := Lib.hid b5
  unfold tokV
  clear b5
  have ⟨⟨q1, q2, q3, q4⟩, ⟨f1, f2, f3, f4⟩⟩ := tok0_facts BB.out
  go_wp2
  refine bodyPost_ret (v := .tuple #[tokV ⟨6, d, 0, at_⟩, .int .i64 ((at_ + 1 : Nat) : Int), .int .i64 0]) (by simp [results, Try.results30, go_sem, tokV, q1, q2, q3, q4]) rfl ⟨ret_tres EE.out, ?_⟩
  exact ((((tok0_below BB.out).setCell (Nat.le_refl _) _).setCell (Nat.le_refl _) _).setCell (Nat.le_refl _) _).setCell (Nat.le_refl _) _
set_option maxRecDepth 100000 in
set_option maxHeartbeats 1000000 in
theorem one_semi (s : ByteArray) (at_ : Nat) (w : World) (hat : at_ < s.size) (hs : s.size ≤ 100000) (hc : iv s[at_] = 59) (hl : at_ + 1 < s.size) (hd : iv s[at_ + 1] = 59) :
    Calls Try.prog 30 #[.string s, .int .i64 at_] w (TRes (oneR at_ (one (s.data.toList.drop at_))) w) := by
  have t1 : ((s[at_].toNat : Int) == 126) = false := test_iv' (by omega)
  have t2 : ((s[at_].toNat : Int) == 34) = false := test_iv' (by omega)
  have t3 : ((s[at_].toNat : Int) == 40) = false := test_iv' (by omega)
  have t4 : ((s[at_].toNat : Int) == 41) = false := test_iv' (by omega)
  have t5 : ((s[at_].toNat : Int) == 95) = false := test_iv' (by omega)
  have I := fun W => is_any (s[at_].toNat : Int) W
  rw [show kindN (s[at_].toNat : Int) = 0 from (by rw [show (s[at_].toNat : Int) = 59 from hc]; rfl)] at I
  have II := Lib.hid I
  clear I
  have t6 := test_iv hc
  have t7 := test_iv hd
  have N := fun W => named_ref ⟨#[59, 59]⟩ 6 at_ W
  rw [show (if key (⟨#[59, 59]⟩ : ByteArray).data.toList = true then (6 : Int) else 6) = 6 from by simp] at N
  have NN := Lib.hid N
  have EE := Lib.hid (oneR_ok (tok_semi s at_ hl hc hd))
  clear N hc hd
  go_enter Try.func30, Try.ntmps30
  go_wp2_with fail
  refine (II.out _).mono ?_
  rintro e w1 ⟨rfl, rfl⟩
  go_wp2_with fail
  refine (NN.out _).mono ?_
  rintro e w5 ⟨rfl, b5⟩
  have BB : Hid (Below (tok0 w).heap.size (tok0 w) w5) := Lib.hid b5
  unfold tokV
  clear b5
  have ⟨⟨q1, q2, q3, q4⟩, ⟨f1, f2, f3, f4⟩⟩ := tok0_facts BB.out
  go_wp2
  refine bodyPost_ret (v := .tuple #[tokV ⟨6, ⟨#[59, 59]⟩, 0, at_⟩, .int .i64 ((at_ + 2 : Nat) : Int), .int .i64 0]) (by simp [results, Try.results30, go_sem, tokV, q1, q2, q3, q4]) rfl ⟨ret_tres EE.out, ?_⟩
  exact ((((tok0_below BB.out).setCell (Nat.le_refl _) _).setCell (Nat.le_refl _) _).setCell (Nat.le_refl _) _).setCell (Nat.le_refl _) _
set_option maxRecDepth 100000 in
set_option maxHeartbeats 1000000 in
theorem one_semi_end (s : ByteArray) (at_ : Nat) (w : World) (hat : at_ < s.size) (hs : s.size ≤ 100000) (hc : iv s[at_] = 59) (hl : ¬ at_ + 1 < s.size) :
    Calls Try.prog 30 #[.string s, .int .i64 at_] w (TRes (oneR at_ (one (s.data.toList.drop at_))) w) := by
  have L1 : ltr (iv s[at_]) = false := by rw [hc]; rfl
  have L3 : opr (iv s[at_]) = false := by rw [hc]; rfl
  have t1 : ((s[at_].toNat : Int) == 126) = false := test_iv' (by omega)
  have t2 : ((s[at_].toNat : Int) == 34) = false := test_iv' (by omega)
  have t3 : ((s[at_].toNat : Int) == 40) = false := test_iv' (by omega)
  have t4 : ((s[at_].toNat : Int) == 41) = false := test_iv' (by omega)
  have t5 : ((s[at_].toNat : Int) == 95) = false := test_iv' (by omega)
  have I := fun W => is_any (s[at_].toNat : Int) W
  rw [show kindN (s[at_].toNat : Int) = 0 from (by rw [show (s[at_].toNat : Int) = 59 from hc]; rfl)] at I
  have II := Lib.hid I
  clear I
  have t6 := test_iv hc
  have EE := Lib.hid (oneR_err (tok_no s at_ hat L1 (by rw [hc]; decide) (by omega) L3 (by omega) (fun g => absurd g hl)) (by omega))
  clear hc L1 L3
  go_enter Try.func30, Try.ntmps30
  go_wp2_with fail
  refine (II.out _).mono ?_
  rintro e w1 ⟨rfl, rfl⟩
  go_wp2
  refine bodyPost_ret (v := .tuple #[tokV ⟨0, ⟨#[]⟩, 0, 0⟩, .int .i64 0, .int .i64 30]) (by simp [results, Try.results30, go_sem, tokV]) rfl ⟨ret_tres EE.out, ?_⟩
  exact (Below.refl _ _).alloc (Nat.le_refl _) _
set_option maxRecDepth 100000 in
set_option maxHeartbeats 1000000 in
theorem one_semi_no (s : ByteArray) (at_ : Nat) (w : World) (hat : at_ < s.size) (hs : s.size ≤ 100000) (hc : iv s[at_] = 59) (hl : at_ + 1 < s.size) (hd : ¬ iv s[at_ + 1] = 59) :
    Calls Try.prog 30 #[.string s, .int .i64 at_] w (TRes (oneR at_ (one (s.data.toList.drop at_))) w) := by
  have L1 : ltr (iv s[at_]) = false := by rw [hc]; rfl
  have L3 : opr (iv s[at_]) = false := by rw [hc]; rfl
  have t1 : ((s[at_].toNat : Int) == 126) = false := test_iv' (by omega)
  have t2 : ((s[at_].toNat : Int) == 34) = false := test_iv' (by omega)
  have t3 : ((s[at_].toNat : Int) == 40) = false := test_iv' (by omega)
  have t4 : ((s[at_].toNat : Int) == 41) = false := test_iv' (by omega)
  have t5 : ((s[at_].toNat : Int) == 95) = false := test_iv' (by omega)
  have I := fun W => is_any (s[at_].toNat : Int) W
  rw [show kindN (s[at_].toNat : Int) = 0 from (by rw [show (s[at_].toNat : Int) = 59 from hc]; rfl)] at I
  have II := Lib.hid I
  clear I
  have t6 := test_iv hc
  have t7 := test_iv' hd
  have EE := Lib.hid (oneR_err (tok_no s at_ hat L1 (by rw [hc]; decide) (by omega) L3 (by omega) (fun _ _ => hd)) (by omega))
  clear hc hd L1 L3
  go_enter Try.func30, Try.ntmps30
  go_wp2_with fail
  refine (II.out _).mono ?_
  rintro e w1 ⟨rfl, rfl⟩
  go_wp2
  refine bodyPost_ret (v := .tuple #[tokV ⟨0, ⟨#[]⟩, 0, 0⟩, .int .i64 0, .int .i64 30]) (by simp [results, Try.results30, go_sem, tokV]) rfl ⟨ret_tres EE.out, ?_⟩
  exact (Below.refl _ _).alloc (Nat.le_refl _) _
set_option maxRecDepth 100000 in
set_option maxHeartbeats 1000000 in
theorem one_no (s : ByteArray) (at_ : Nat) (w : World) (hat : at_ < s.size) (_hs : s.size ≤ 100000) (h1 : ltr (iv s[at_]) = false) (h2 : dgt (iv s[at_]) = false) (h3 : opr (iv s[at_]) = false) (h4 : ¬ (iv s[at_] = 126 ∨ iv s[at_] = 34 ∨ iv s[at_] = 40 ∨ iv s[at_] = 41 ∨ iv s[at_] = 95 ∨ iv s[at_] = 59)) :
    Calls Try.prog 30 #[.string s, .int .i64 at_] w (TRes (oneR at_ (one (s.data.toList.drop at_))) w) := by
  have t1 : ((s[at_].toNat : Int) == 126) = false := test_iv' (by omega)
  have t2 : ((s[at_].toNat : Int) == 34) = false := test_iv' (by omega)
  have t3 : ((s[at_].toNat : Int) == 40) = false := test_iv' (by omega)
  have t4 : ((s[at_].toNat : Int) == 41) = false := test_iv' (by omega)
  have t5 : ((s[at_].toNat : Int) == 95) = false := test_iv' (by omega)
  have t6 : ((s[at_].toNat : Int) == 59) = false := test_iv' (by omega)
  have EE := Lib.hid (oneR_err (tok_no s at_ hat h1 (by rw [h2]; simp; omega) (by omega) h3 (by omega) (fun _ g => by omega)) (by omega))
  have I := fun W => is_any (s[at_].toNat : Int) W
  have hk := kind_rest h1 h2 h3
  have k1 : (kindN (iv s[at_]) == 1) = false := by rw [hk]; split <;> rfl
  have k2 : (kindN (iv s[at_]) == 2) = false := by rw [hk]; split <;> rfl
  have k3 : (kindN (iv s[at_]) == 3) = false := by rw [hk]; split <;> rfl
  have k5 : (kindN (iv s[at_]) == 5) = false := by rw [hk]; split <;> rfl
  unfold iv at k1 k2 k3 k5
  clear hk
  generalize kindN (s[at_].toNat : Int) = K at *
  have II := Lib.hid I
  clear I h1 h2 h3 h4
  go_enter Try.func30, Try.ntmps30
  go_wp2_with fail
  refine (II.out _).mono ?_
  rintro e w1 ⟨rfl, rfl⟩
  go_wp2
  refine bodyPost_ret (v := .tuple #[tokV ⟨0, ⟨#[]⟩, 0, 0⟩, .int .i64 0, .int .i64 30]) (by simp [results, Try.results30, go_sem, tokV]) rfl ⟨ret_tres EE.out, ?_⟩
  exact (Below.refl _ _).alloc (Nat.le_refl _) _
theorem one_any (s : ByteArray) (at_ : Nat) (w : World) (hat : at_ < s.size) (hs : s.size ≤ 100000) :
    Calls Try.prog 30 #[.string s, .int .i64 at_] w (TRes (oneR at_ (one (s.data.toList.drop at_))) w) := by
  by_cases h1 : ltr (iv s[at_]) = true
  · by_cases hl : low (iv s[at_]) = true
    · exact one_low s at_ w hat hs hl
    · exact one_upp s at_ w hat hs (by simp [ltr, hl] at h1; exact h1)
  · by_cases h2 : dgt (iv s[at_]) = true
    · exact one_digit s at_ w hat hs (by simpa using h1) h2
    · by_cases h3 : opr (iv s[at_]) = true
      · exact one_opr s at_ w hat hs h3
      · by_cases g1 : iv s[at_] = 126
        · exact one_tilde s at_ w hat hs g1
        · by_cases g2 : iv s[at_] = 34
          · exact one_txt s at_ w hat hs g2
          · by_cases g3 : iv s[at_] = 40
            · exact one_40 s at_ w hat hs g3
            · by_cases g4 : iv s[at_] = 41
              · exact one_41 s at_ w hat hs g4
              · by_cases g5 : iv s[at_] = 95
                · exact one_95 s at_ w hat hs g5
                · by_cases g6 : iv s[at_] = 59
                  · by_cases hl : at_ + 1 < s.size
                    · by_cases hd : iv s[at_ + 1] = 59
                      · exact one_semi s at_ w hat hs g6 hl hd
                      · exact one_semi_no s at_ w hat hs g6 hl hd
                    · exact one_semi_end s at_ w hat hs g6 hl
                  · exact one_no s at_ w hat hs (by simpa using h1) (by simpa using h2) (by simpa using h3) (by omega)
end Go.Proofs.Ytgcojmjllpjefaa
