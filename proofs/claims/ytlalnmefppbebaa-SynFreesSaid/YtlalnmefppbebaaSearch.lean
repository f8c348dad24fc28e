/- The search through a list of nodes, with each of the three functions that it is given. -/
import Derived.Test.YtlalnmefppbebaaViews
import Derived.Test.YtlalnmefppbebaaSlot
import Derived.Lib.Hide
namespace Go.Proofs.Ytlalnmefppbebaa
open Go.RowKit Go.Proofs.TreeMath

theorem ret_int {k : IntKind} {a b : Int} (h : a = b) : Ending.returned (.int k a) = .returned (.int k b) := by rw [h]
theorem ret_bool {a b : Bool} (h : a = b) : Ending.returned (.bool a) = .returned (.bool b) := by rw [h]
theorem k_neg {k : Int} (h : k < 0) : decide (k < 0) = true := by simpa using h
theorem k_pos {k : Int} (h : ¬ k < 0) : decide (k < 0) = false := by simpa using h
def Done (F E : World → Prop) (x : Int) (e : Ending) (w : World) : Prop := ∃ y : Int, y = x ∧ e = .returned (.int .i64 y) ∧ ((0 ≤ x ∧ F w) ∨ (x = -1 ∧ E w))
/-- What holds at each jump back: m the node at hand, o the open trees. -/
inductive Jump (b off n c : Nat) (FV : Value) (R : Nat → Nat → World → Prop) : Act → World → Prop
  | mk (m o : Nat) (mi oi : Int) (u8 u9 u10 u11 u12 u13 u14 u15 u16 u17 u18 u19 u21 u22 u23 u24 u25 u26 u27 u28 u29 u30 u31 u32 u33 u34 u35 u36 u37 u38 u39 u40 u41 u42 u43 u44 u45 u46 u47 u48 u49 u50 u51 u52 u53 u54 : Value) (w : World) (hmi : mi = (m : Int)) (hoi : oi = (o : Int)) (hmn : m ≤ n) (hon : o ≤ n - m) (hr : R m o w) : Jump b off n c FV R { tmps := #[Value.slice (some ⟨b, off, none⟩) n c, .int .i64 mi, FV, undef, undef, undef, .int .i64 0, .int .i64 oi, u8, u9, u10, u11, u12, u13, u14, u15, u16, u17, u18, u19, undef, u21, u22, u23, u24, u25, u26, u27, u28, u29, u30, u31, u32, u33, u34, u35, u36, u37, u38, u39, u40, u41, u42, u43, u44, u45, u46, u47, u48, u49, u50, u51, u52, u53, u54], defers := [] } w
set_option maxRecDepth 100000 in
set_option maxHeartbeats 2000000 in
theorem search_any (b off n c i : Nat) (ks : List Int) (w : World) (hi : i < n) (hn : n ≤ 1000000) (hl : ks.length = n) (f : FuncId) (caps : Array Value) (hf : ∀ vs w, (callFunc f vs).run Try.prog w = .ok (.enter f vs) w) (R S : Nat → Nat → World → Prop) (F E : World → Prop) (h0 : R i 1 w)
    (hcell : ∀ m o w', S m o w' → m < n → w'.cell? ⟨b, off + m * 4 + 3, none⟩ = some (.int .i64 (ks.getD m 0)))
    (found : ∀ (m : Nat) (w' : World), m ≤ n → R m 0 w' → Calls Try.prog f (#[.int .i64 m, .int .i64 0] ++ caps) w' fun e w'' => e = .returned (.bool true) ∧ F w'')
    (next : ∀ (m o : Nat) (oi : Int) (w' : World), m < n → o + 1 ≤ n - m → oi = ((o + 1 : Nat) : Int) → R m (o + 1) w' → Calls Try.prog f (#[.int .i64 m, .int .i64 oi] ++ caps) w' fun e w'' => e = .returned (.bool false) ∧ S m (o + 1) w'')
    (go : ∀ (m o : Nat) (w' : World), m < n → S m (o + 1) w' → 0 ≤ ks.getD m 0 → R (m + 1) (o + (ks.getD m 0).toNat) w') (bad : ∀ (m o : Nat) (w' : World), S m (o + 1) w' → E w') :
    Calls Try.prog 46 #[.slice (some ⟨b, off, none⟩) n c, .int .i64 i, .func (.func f) #[] caps] w (Done F E (fin ks i 1)) := by
  have HL := Lib.hid hl
  have HC := Lib.hid hcell
  have HN := Lib.hid next
  have HG := Lib.hid go
  have HB := Lib.hid bad
  have HD := Lib.hid found
  have HW := Lib.hid hf
  clear hl hcell next go bad found hf
  have u0 : decide ((i : Int) < 0) = false := by simp
  have u1 : decide (n ≤ i) = false := by simp; omega
  go_enter Try.func46, Try.ntmps46
  go_wp2
  refine wp_scope_jumps 0 (Jump b off n c (.func (.func f) #[] caps) fun m o w' => fin ks m o = fin ks i 1 ∧ R m o w') (fun a' _ => n - (intOf (a'.tmps.getD 1 undef)).toNat) rfl ?_ ?_
  · clear u0 u1
    have u0 : decide ((i : Int) < 0) = false := by simp
    have u1 : decide (n ≤ i) = false := by simp; omega
    obtain ⟨k, hk⟩ : ∃ k, k = ks.getD i 0 := ⟨_, rfl⟩
    have HK := Lib.hid hk
    clear hk
    by_cases k1 : k < 0
    · have t1 := k_neg k1
      go_wp2
      go_step3
      go_wp2_with ((refine wpList_call_slot (o := ⟨some 19, _, _, _, _, _⟩) rfl 16 _ _ rfl f caps rfl HW.out (#[.int .i64 (i : Nat), .int .i64 1] ++ caps) (by simp [go_sem]) ?_; refine (HN.out i 0 1 _ hi (by omega) rfl h0).mono ?_; rintro e w1 ⟨rfl, hs⟩; refine ⟨_, rfl, ?_⟩; simp only [Act.put, List.setIfInBounds_toArray, List.set_cons_succ, List.set_cons_zero]; have hc0 := HC.out _ _ _ hs hi; rw [← HK.out] at hc0))
      simp only [Exit.jump]
      go_ret
      have fx : fin ks i 1 = -1 := by show fin ks i (0 + 1) = -1; exact fin_neg ks i 0 (by rw [HL.out]; exact hi) (by rw [← HK.out]; exact k1)
      exact ⟨-1, fx.symm, rfl, .inr ⟨fx, HB.out _ _ _ hs⟩⟩
    · have t1 := k_pos k1
      by_cases k2 : (n : Int) - i - 1 < k
      · have t2 : decide ((n : Int) - i - 1 < k) = true := by simpa using k2
        go_wp2
        go_step3
        go_wp2_with ((refine wpList_call_slot (o := ⟨some 19, _, _, _, _, _⟩) rfl 16 _ _ rfl f caps rfl HW.out (#[.int .i64 (i : Nat), .int .i64 1] ++ caps) (by simp [go_sem]) ?_; refine (HN.out i 0 1 _ hi (by omega) rfl h0).mono ?_; rintro e w1 ⟨rfl, hs⟩; refine ⟨_, rfl, ?_⟩; simp only [Act.put, List.setIfInBounds_toArray, List.set_cons_succ, List.set_cons_zero]; have hc0 := HC.out _ _ _ hs hi; rw [← HK.out] at hc0))
        simp only [Exit.jump]
        go_ret
        have fx : fin ks i 1 = -1 := by show fin ks i (0 + 1) = -1; rw [fin_step ks i 0 (by rw [HL.out]; exact hi) (by rw [← HK.out]; omega)]; exact fin_many _ _ _ (by rw [HL.out]; omega) (by rw [HL.out, ← HK.out]; omega)
        exact ⟨-1, fx.symm, rfl, .inr ⟨fx, HB.out _ _ _ hs⟩⟩
      · have t2 : decide ((n : Int) - i - 1 < k) = false := by simpa using k2
        go_wp2
        go_step3
        go_wp2_with ((refine wpList_call_slot (o := ⟨some 19, _, _, _, _, _⟩) rfl 16 _ _ rfl f caps rfl HW.out (#[.int .i64 (i : Nat), .int .i64 1] ++ caps) (by simp [go_sem]) ?_; refine (HN.out i 0 1 _ hi (by omega) rfl h0).mono ?_; rintro e w1 ⟨rfl, hs⟩; refine ⟨_, rfl, ?_⟩; simp only [Act.put, List.setIfInBounds_toArray, List.set_cons_succ, List.set_cons_zero]; have hc0 := HC.out _ _ _ hs hi; rw [← HK.out] at hc0))
        go_step3
        have hgo := HG.out _ _ _ hi hs (by rw [← HK.out]; omega)
        have fx : fin ks (i + 1) (0 + k.toNat) = fin ks i 1 := by rw [HK.out]; exact (fin_step ks i 0 (by rw [HL.out]; exact hi) (by rw [← HK.out]; omega)).symm
        rw [← HK.out] at hgo
        exact ⟨rfl, .mk (i + 1) (0 + k.toNat) _ _ _ _ _ _ _ _ _ _ _ _ _ _ _ _ _ _ _ _ _ _ _ _ _ _ _ _ _ _ _ _ _ _ _ _ _ _ _ _ _ _ _ _ _ _ _ _ _ (by omega) (by omega) (by omega) (by omega) ⟨fx, hgo⟩⟩
  · clear u0 u1
    intro a' w' hJ
    rcases hJ with @⟨m, o, mi, oi, u8, u9, u10, u11, u12, u13, u14, u15, u16, u17, u18, u19, u21, u22, u23, u24, u25, u26, u27, u28, u29, u30, u31, u32, u33, u34, u35, u36, u37, u38, u39, u40, u41, u42, u43, u44, u45, u46, u47, u48, u49, u50, u51, u52, u53, u54, _, rfl, ho, hmn, hon, hf, hR⟩
    rcases o with _ | o
    · have fx : fin ks i 1 = (m : Int) := by rw [← hf, fin_zero]
      clear hf
      have HX := Lib.hid fx
      clear fx
      obtain rfl : oi = 0 := by simpa using ho
      go_wp2_with ((refine wpList_call_slot (o := ⟨some 19, _, _, _, _, _⟩) rfl 16 _ _ rfl f caps rfl HW.out (#[.int .i64 (m : Nat), .int .i64 0] ++ caps) (by simp [go_sem]) ?_; refine (HD.out m _ hmn hR).mono ?_; rintro e w1 ⟨rfl, hF⟩; refine ⟨_, rfl, ?_⟩; simp only [Act.put, List.setIfInBounds_toArray, List.set_cons_succ, List.set_cons_zero]))
      try simp only [Exit.jump]
      go_ret
      exact ⟨_, HX.out.symm, rfl, .inl ⟨by rw [HX.out]; omega, hF⟩⟩
    · have hm : m < n := by omega
      have o1 : (oi == 0) = false := by simp; omega
      have o2 : oi ≤ 1000000 := by omega
      have o3 : 1 ≤ oi := by omega
      have HO := Lib.hid ho
      clear ho
      obtain ⟨k, hk⟩ : ∃ k, k = ks.getD m 0 := ⟨_, rfl⟩
      have HK := Lib.hid hk
      clear hk
      have HF := Lib.hid hf
      clear hf
      by_cases k1 : k < 0
      · have t1 := k_neg k1
        go_wp2_with ((refine wpList_call_slot (o := ⟨some 19, _, _, _, _, _⟩) rfl 16 _ _ rfl f caps rfl HW.out (#[.int .i64 (m : Nat), .int .i64 oi] ++ caps) (by simp [go_sem]) ?_; refine (HN.out m o oi _ hm (by omega) HO.out hR).mono ?_; rintro e w1 ⟨rfl, hs⟩; refine ⟨_, rfl, ?_⟩; simp only [Act.put, List.setIfInBounds_toArray, List.set_cons_succ, List.set_cons_zero]; have hc0 := HC.out _ _ _ hs hm; rw [← HK.out] at hc0))
        simp only [Exit.jump]
        go_ret
        have fx : fin ks i 1 = -1 := by rw [← HF.out]; exact fin_neg ks m o (by rw [HL.out]; exact hm) (by rw [← HK.out]; exact k1)
        exact ⟨-1, fx.symm, rfl, .inr ⟨fx, HB.out _ _ _ hs⟩⟩
      · have t1 := k_pos k1
        by_cases k2 : (n : Int) - m - oi < k
        · have t2 : decide ((n : Int) - m - oi < k) = true := by simpa using k2
          go_wp2_with ((refine wpList_call_slot (o := ⟨some 19, _, _, _, _, _⟩) rfl 16 _ _ rfl f caps rfl HW.out (#[.int .i64 (m : Nat), .int .i64 oi] ++ caps) (by simp [go_sem]) ?_; refine (HN.out m o oi _ hm (by omega) HO.out hR).mono ?_; rintro e w1 ⟨rfl, hs⟩; refine ⟨_, rfl, ?_⟩; simp only [Act.put, List.setIfInBounds_toArray, List.set_cons_succ, List.set_cons_zero]; have hc0 := HC.out _ _ _ hs hm; rw [← HK.out] at hc0))
          simp only [Exit.jump]
          go_ret
          have fx : fin ks i 1 = -1 := by rw [← HF.out]; rw [fin_step ks m o (by rw [HL.out]; exact hm) (by rw [← HK.out]; omega)]; exact fin_many _ _ _ (by rw [HL.out]; omega) (by rw [HL.out, ← HK.out]; have := HO.out; omega)
          exact ⟨-1, fx.symm, rfl, .inr ⟨fx, HB.out _ _ _ hs⟩⟩
        · have t2 : decide ((n : Int) - m - oi < k) = false := by simpa using k2
          go_wp2_with ((refine wpList_call_slot (o := ⟨some 19, _, _, _, _, _⟩) rfl 16 _ _ rfl f caps rfl HW.out (#[.int .i64 (m : Nat), .int .i64 oi] ++ caps) (by simp [go_sem]) ?_; refine (HN.out m o oi _ hm (by omega) HO.out hR).mono ?_; rintro e w1 ⟨rfl, hs⟩; refine ⟨_, rfl, ?_⟩; simp only [Act.put, List.setIfInBounds_toArray, List.set_cons_succ, List.set_cons_zero]; have hc0 := HC.out _ _ _ hs hm; rw [← HK.out] at hc0))
          go_step3
          have hgo := HG.out _ _ _ hm hs (by rw [← HK.out]; omega)
          have fx : fin ks (m + 1) (o + k.toNat) = fin ks i 1 := by rw [← HF.out]; rw [HK.out]; exact (fin_step ks m o (by rw [HL.out]; exact hm) (by rw [← HK.out]; omega)).symm
          rw [← HK.out] at hgo
          exact ⟨rfl, .mk (m + 1) (o + k.toNat) _ _ _ _ _ _ _ _ _ _ _ _ _ _ _ _ _ _ _ _ _ _ _ _ _ _ _ _ _ _ _ _ _ _ _ _ _ _ _ _ _ _ _ _ _ _ _ _ _ (by omega) (by have := HO.out; omega) (by omega) (by have := HO.out; omega) ⟨fx, hgo⟩, by simp [intOf]; omega⟩
end Go.Proofs.Ytlalnmefppbebaa
