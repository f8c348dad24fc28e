/- Texts of this seat, one behind the other: LxRefA, LxRefOne. -/
import Derived.Test.YtncifeeinogcnaaGreatDoorKn07
import Derived.Test.YtncifeeinogcnaaGreatDoorKn04
/- The contracts of the document's own is, while, hex and named. -/
set_option maxRecDepth 100000
namespace Go.Proofs.YtncifeeinogcnaaGreatDoor.Lx
open Go.RowKit Go.Proofs.LexMath

def kindN (c : Int) : Int := if opr c = true then 5 else if low c = true then 1 else if upp c = true then 2 else if dgt c = true then 3 else if c = 95 ∨ c = 39 then 4 else 0
abbrev oprB : ByteArray := ⟨#[33, 36, 37, 38, 42, 43, 45, 47, 58, 60, 61, 62, 63, 64, 94, 124]⟩
theorem any_at (s : ByteArray) (c : Int) (k : Nat) (hk : k < s.size) : (s.data.toList.take (k + 1)).any (fun x => iv x == c) = ((s.data.toList.take k).any (fun x => iv x == c) || (s[k].toNat : Int) == c) := by
  have hl : k < s.data.toList.length := hk
  rw [List.take_succ_eq_append_getElem hl, List.any_append]
  simp [iv]
  rfl
theorem any_of_take (l : Bs) (c : Int) (k : Nat) (h : (l.take k).any (fun x => iv x == c) = true) : l.any (fun x => iv x == c) = true := by
  rw [List.any_eq_true] at h ⊢
  obtain ⟨x, hx, hx'⟩ := h
  exact ⟨x, List.mem_of_mem_take hx, hx'⟩
theorem kind_op (c : Int) (h : oprB.data.toList.any (fun x => iv x == c) = true) : kindN c = 5 := by
  rw [show oprB.data.toList.any (fun x => iv x == c) = opr c from opr_any c] at h
  simp [kindN, h]
theorem kind_no (c : Int) (h : oprB.data.toList.any (fun x => iv x == c) = false) : kindN c = if low c = true then 1 else if upp c = true then 2 else if dgt c = true then 3 else if c = 95 ∨ c = 39 then 4 else 0 := by
  rw [show oprB.data.toList.any (fun x => iv x == c) = opr c from opr_any c] at h
  simp [kindN, h]
set_option maxRecDepth 100000 in
set_option maxHeartbeats 2000000 in
theorem is_any (c : Int) (w : World) : Calls Tryz.prog 89 #[.int .u8 c] w fun e w' => e = .returned (.int .i64 (kindN c)) ∧ w = w' := by
  have AT := Lib.hid (any_at oprB c)
  have YES := Lib.hid (kind_op c)
  have NO := Lib.hid (kind_no c)
  have TAKE := Lib.hid (any_of_take oprB.data.toList c)
  generalize kindN c = r at *
  go_enter Tryz.func89, Tryz.ntmps89
  go_wp2
  go_loop [4] (fun i => ∃ k : Nat, k ≤ 16 ∧ i = .int .i64 k ∧ (oprB.data.toList.take k).any (fun x => iv x == c) = false) (fun i => 16 - (intOf i).toNat)
  case atStart => exact ⟨0, by omega, rfl, rfl⟩
  case round =>
    obtain ⟨k, hk, rfl, hf⟩ := hrel
    have HF := Lib.hid hf
    clear hf
    by_cases hlt : k < 16
    · have e := AT.out k hlt
      rw [HF.out, Bool.false_or] at e
      cases hc : ((oprB[k]'hlt).toNat : Int) == c with
      | true =>
        rw [hc] at e
        have E := Lib.hid (YES.out (TAKE.out _ e))
        clear e
        go_wp2
        go_ret
        exact ⟨ret_int E.out.symm, rfl⟩
      | false =>
        rw [hc] at e
        have E := Lib.hid e
        clear e
        go_wp2
        go_round
        case rel => exact ⟨k + 1, by omega, by go_num, E.out⟩
        case measure => simp [intOf]; omega
    · obtain rfl : k = 16 := by omega
      have E := Lib.hid (NO.out HF.out)
      by_cases g1 : low c = true
      · simp [low] at g1
        have e : r = 1 := by rw [E.out]; simp [low, g1]
        have EE := Lib.hid e
        clear e
        obtain ⟨g1, g2⟩ := g1
        go_wp2
        go_ret
        exact ⟨ret_int EE.out.symm, rfl⟩
      · by_cases g2 : upp c = true
        · have e : r = 2 := by rw [E.out]; simp [g1, g2]
          have EE := Lib.hid e
          clear e
          simp [upp] at g2
          obtain ⟨g2, g3⟩ := g2
          have d1 : ¬ 97 ≤ c := by omega
          clear g1
          go_wp2
          go_ret
          exact ⟨ret_int EE.out.symm, rfl⟩
        · by_cases g3 : dgt c = true
          · have e : r = 3 := by rw [E.out]; simp [g1, g2, g3]
            have EE := Lib.hid e
            clear e
            simp [dgt] at g3
            obtain ⟨g3, g4⟩ := g3
            have d1 : ¬ 97 ≤ c := by omega
            have d2 : ¬ 65 ≤ c := by omega
            clear g1 g2
            go_wp2
            go_ret
            exact ⟨ret_int EE.out.symm, rfl⟩
          · have e : r = if c = 95 ∨ c = 39 then 4 else 0 := by rw [E.out]; simp [g1, g2, g3]
            have EE := Lib.hid e
            simp [low] at g1
            simp [upp] at g2
            simp [dgt] at g3
            have G := Lib.hid (And.intro g1 (And.intro g2 g3))
            clear e g1 g2 g3
            go_wp2
            all_goals go_ret
            all_goals
              have G1 := G.out
              refine ⟨ret_int ?_, rfl⟩
              rw [EE.out]
              simp_all
            all_goals omega
def kp (lo hi : Int) (r : Int) : Bool := decide (lo ≤ kindN r) && decide (kindN r ≤ hi)
theorem run_at (p : Int → Bool) (s : ByteArray) (k : Nat) (hk : k < s.size) :
    (p (s[k].toNat : Int) = true → k + run p (s.data.toList.drop k) = k + 1 + run p (s.data.toList.drop (k + 1))) ∧ (p (s[k].toNat : Int) = false → run p (s.data.toList.drop k) = 0) := by
  rw [drop_at s k hk]
  refine ⟨fun h => ?_, fun h => ?_⟩
  · rw [run_yes p _ _ h]; omega
  · exact run_no p _ _ h
theorem run_end (p : Int → Bool) (s : ByteArray) (k : Nat) (hk : ¬ k < s.size) : run p (s.data.toList.drop k) = 0 := by
  rw [List.drop_eq_nil_of_le (by show s.data.size ≤ _; have : s.size = s.data.size := rfl; omega)]; rfl
set_option maxHeartbeats 1000000 in
theorem while_any (s : ByteArray) (at_ : Nat) (lo hi : Int) (w : World) (hat : at_ ≤ s.size) (hs : s.size ≤ 100000000) :
    Calls Tryz.prog 90 #[.string s, .int .i64 at_, .int .i64 lo, .int .i64 hi] w fun e w' => e = .returned (.int .i64 ((at_ + run (kp lo hi) (s.data.toList.drop at_) : Nat) : Int)) ∧ w = w' := by
  have AT := Lib.hid (run_at (kp lo hi) s)
  have END := Lib.hid (run_end (kp lo hi) s)
  obtain ⟨n, hn⟩ : ∃ n, at_ + run (kp lo hi) (s.data.toList.drop at_) = n := ⟨_, rfl⟩
  rw [hn]
  have HN := Lib.hid hn
  clear hn
  go_enter Tryz.func90, Tryz.ntmps90
  go_wp2
  go_loop [1] (fun i => ∃ k : Nat, k ≤ s.size ∧ i = .int .i64 k ∧ k + run (kp lo hi) (s.data.toList.drop k) = n) (fun i => s.size - (intOf i).toNat)
  case atStart => exact ⟨at_, hat, rfl, HN.out⟩
  case round =>
    obtain ⟨k, hk, rfl, hr⟩ := hrel
    have HR := Lib.hid hr
    clear hr
    by_cases hlt : k < s.size
    · obtain ⟨h1, h2⟩ := AT.out k hlt
      have IS := fun W => is_any (s[k].toNat : Int) W
      unfold kp at h1 h2
      generalize kindN (s[k].toNat : Int) = K at *
      have II := Lib.hid IS
      clear IS
      by_cases g1 : lo ≤ K
      · have d1 : decide (lo ≤ K) = true := by simpa using g1
        by_cases g2 : K ≤ hi
        · have d2 : decide (K ≤ hi) = true := by simpa using g2
          have E := Lib.hid (h1 (by rw [d1, d2]; rfl))
          clear h1 h2
          go_wp2_with fail
          refine (II.out _).mono ?_
          rintro e w1 ⟨rfl, rfl⟩
          go_wp2_with fail
          refine (II.out _).mono ?_
          rintro e w1 ⟨rfl, rfl⟩
          go_wp2
          go_round
          case rel => exact ⟨k + 1, by omega, by go_num, by rw [← HR.out]; exact E.out.symm⟩
          case measure => simp [intOf]; omega
        · have d2 : decide (K ≤ hi) = false := by simpa using g2
          have E := Lib.hid (h2 (by rw [d1, d2]; rfl))
          clear h1 h2
          go_wp2_with fail
          refine (II.out _).mono ?_
          rintro e w1 ⟨rfl, rfl⟩
          go_wp2_with fail
          refine (II.out _).mono ?_
          rintro e w1 ⟨rfl, rfl⟩
          go_wp2
          go_ret
          exact ⟨ret_int (by rw [← HR.out, show run (kp lo hi) (s.data.toList.drop k) = 0 from E.out]; rfl), rfl⟩
      · have d1 : decide (lo ≤ K) = false := by simpa using g1
        have E := Lib.hid (h2 (by rw [d1]; rfl))
        clear h1 h2
        go_wp2_with fail
        refine (II.out _).mono ?_
        rintro e w1 ⟨rfl, rfl⟩
        go_wp2
        go_ret
        exact ⟨ret_int (by rw [← HR.out, show run (kp lo hi) (s.data.toList.drop k) = 0 from E.out]; rfl), rfl⟩
    · have E := Lib.hid (END.out k hlt)
      go_wp2
      go_ret
      exact ⟨ret_int (by rw [← HR.out, E.out]; rfl), rfl⟩
theorem kp_tl : kp 1 4 = tl := by
  funext r
  rw [Bool.eq_iff_iff]
  simp only [kp, kindN, opr, tl, ltr, low, upp, dgt, Bool.and_eq_true, Bool.or_eq_true, decide_eq_true_eq, beq_iff_eq]
  constructor
  · rintro ⟨h1, h2⟩
    repeat' split at h1
    all_goals (repeat' split at h2)
    all_goals omega
  · intro h
    constructor <;> (repeat' split) <;> omega
theorem kp_opr : kp 5 5 = opr := by
  funext r
  rw [Bool.eq_iff_iff]
  simp only [kp, kindN, opr, low, upp, dgt, Bool.and_eq_true, Bool.or_eq_true, decide_eq_true_eq, beq_iff_eq]
  constructor
  · rintro ⟨h1, h2⟩
    repeat' split at h1
    all_goals (repeat' split at h2)
    all_goals omega
  · intro h
    constructor <;> (repeat' split) <;> omega
end Go.Proofs.YtncifeeinogcnaaGreatDoor.Lx
/- The contract of the document's own one: the token at a place. -/
namespace Go.Proofs.YtncifeeinogcnaaGreatDoor.Lx
open Go.RowKit Go.Proofs.LexMath

theorem kind_low {c : Int} (h : low c = true) : kindN c = 1 := by
  have : opr c = false := by
    rw [Bool.eq_false_iff]; intro g
    simp [low] at h; simp [opr] at g; omega
  simp [kindN, this, h]
theorem kind_upp {c : Int} (h : upp c = true) : kindN c = 2 := by
  have h1 : opr c = false := by
    rw [Bool.eq_false_iff]; intro g
    simp [upp] at h; simp [opr] at g; omega
  have h2 : low c = false := by
    rw [Bool.eq_false_iff]; intro g
    simp [upp] at h; simp [low] at g; omega
  simp [kindN, h1, h2, h]
end Go.Proofs.YtncifeeinogcnaaGreatDoor.Lx
