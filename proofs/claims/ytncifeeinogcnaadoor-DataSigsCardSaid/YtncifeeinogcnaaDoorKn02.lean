/- Texts of this seat, one behind the other: Slot, Search, End. -/
import Derived.WalkKit
import Derived.Test.YtncifeeinogcnaaDoorRows
import Derived.Test.YtncifeeinogcnaaDoorKn01
import Derived.Lib.Hide
/- A call of a function value that lies in a slot, as a law for the walk. -/
namespace Go
theorem wpList_call_slot {P : Program} {w : World} {ops : Array Oper} {rest : List Oper} {o : Oper} {a : Act} {Q : Exit → Act → World → Prop} (hgd : o.guard = none) (t : Tmp) (xs : Array Operand) (ats : Array TypeId)
    (ho : o.op = .call { callee := .value (.tmp t), args := xs, argTypes := ats }) (f : FuncId) (cap : Array Value) (hv : a.eval (.tmp t) = .func (.func f) #[] cap) (hf : ∀ vs w, (callFunc f vs).run P w = .ok (.enter f vs) w) (vs : Array Value) (hx : xs.map a.eval ++ cap = vs)
    (h : Calls P f vs w fun e w' => ∃ v, e = .returned v ∧ wpList P ops Q rest (a.put o.dst v) w') : wpList P ops Q (o :: rest) a w := by
  refine wpList_plain hgd fun K hK => ?_
  subst hx
  unfold Oper.wp
  have e : execOp a.eval o = callFunc f (xs.map a.eval ++ cap) := by
    obtain ⟨dst, op, ty, pos, after, guard⟩ := o
    simp only at ho
    subst ho
    simp [execOp, resolve, invoke, hv, Deferred.ofValue]
  rw [e, hf, Oper.upon_enter]
  refine h.mono ?_
  rintro e w' ⟨v, rfl, hw⟩
  exact hK _ _ hw
/-- The same where the operation is guarded, and its guard says yes. -/
theorem wpList_call_slot_if {P : Program} {w : World} {ops : Array Oper} {rest : List Oper} {o : Oper} {a : Act} {Q : Exit → Act → World → Prop} (hgd : Region.wanted o (yielded ops a.tmps) = true) (t : Tmp) (xs : Array Operand) (ats : Array TypeId)
    (ho : o.op = .call { callee := .value (.tmp t), args := xs, argTypes := ats }) (f : FuncId) (cap : Array Value) (hv : a.eval (.tmp t) = .func (.func f) #[] cap) (hf : ∀ vs w, (callFunc f vs).run P w = .ok (.enter f vs) w) (vs : Array Value) (hx : xs.map a.eval ++ cap = vs)
    (h : Calls P f vs w fun e w' => ∃ v, e = .returned v ∧ wpList P ops Q rest (a.put o.dst v) w') : wpList P ops Q (o :: rest) a w := by
  refine wpList_step fun K hK => ?_
  rw [if_pos hgd]
  subst hx
  unfold Oper.wp
  have e : execOp a.eval o = callFunc f (xs.map a.eval ++ cap) := by
    obtain ⟨dst, op, ty, pos, after, guard⟩ := o
    simp only at ho
    subst ho
    simp [execOp, resolve, invoke, hv, Deferred.ofValue]
  rw [e, hf, Oper.upon_enter]
  refine h.mono ?_
  rintro e w' ⟨v, rfl, hw⟩
  exact hK _ _ hw
theorem run_callFunc {P : Program} {f : FuncId} {fn : Func} (hq : P.funcs[f]? = some fn) (hn : (fn.name == "runtime.NumGoroutine") = false) (hb : fn.body.isNone = false) (vs : Array Value) (w : World) : (callFunc f vs).run P w = .ok (.enter f vs) w := by
  have hn' : ¬ fn.name = "runtime.NumGoroutine" := by simpa using hn
  have hb' : ¬ fn.body = none := fun h => by simp [h] at hb
  unfold callFunc
  simp [hq, hn', hb']
end Go
namespace Go.Proofs.YtncifeeinogcnaaDoor
theorem call30 (vs : Array Value) (w : World) : (callFunc 45 vs).run Tryd.prog w = .ok (.enter 45 vs) w := run_callFunc Tryd.func45 (by kernel_rfl) (by kernel_rfl) vs w
end Go.Proofs.YtncifeeinogcnaaDoor
/- The search through a list of nodes, with each of the three functions that it is given. -/
set_option maxRecDepth 100000
namespace Go.Proofs.YtncifeeinogcnaaDoor
open Go.RowKit Go.Proofs.TreeMath

theorem ret_int {k : IntKind} {a b : Int} (h : a = b) : Ending.returned (.int k a) = .returned (.int k b) := by rw [h]
theorem ret_bool {a b : Bool} (h : a = b) : Ending.returned (.bool a) = .returned (.bool b) := by rw [h]
theorem k_neg {k : Int} (h : k < 0) : decide (k < 0) = true := by simpa using h
theorem k_pos {k : Int} (h : ¬ k < 0) : decide (k < 0) = false := by simpa using h
def Done (F E : World → Prop) (x : Int) (e : Ending) (w : World) : Prop := ∃ y : Int, y = x ∧ e = .returned (.int .i64 y) ∧ ((0 ≤ x ∧ F w) ∨ (x = -1 ∧ E w))
/-- What holds at each jump back: m the node at hand, o the open trees. -/
inductive Jump (b off n c : Nat) (FV : Value) (R : Nat → Nat → World → Prop) : Act → World → Prop
  | mk (m o : Nat) (mi oi : Int) (u8 u9 u10 u11 u12 u13 u14 u15 u16 u17 u18 u19 u21 u22 u23 u24 u25 u26 u27 u28 u29 u30 u31 u32 u33 u34 u35 u36 u37 u38 u39 u40 u41 u42 u43 u44 u45 u46 u47 u48 u49 u50 u51 u52 u53 u54 : Value) (w : World) (hmi : mi = (m : Int)) (hoi : oi = (o : Int)) (hmn : m ≤ n) (hon : o ≤ n - m) (hr : R m o w) : Jump b off n c FV R { tmps := #[Value.slice (some ⟨b, off, none⟩) n c, .int .i64 mi, FV, undef, undef, undef, .int .i64 0, .int .i64 oi, u8, u9, u10, u11, u12, u13, u14, u15, u16, u17, u18, u19, undef, u21, u22, u23, u24, u25, u26, u27, u28, u29, u30, u31, u32, u33, u34, u35, u36, u37, u38, u39, u40, u41, u42, u43, u44, u45, u46, u47, u48, u49, u50, u51, u52, u53, u54], defers := [] } w
set_option maxRecDepth 100000 in
set_option maxHeartbeats 2000000 in
theorem search_any (b off n c i : Nat) (ks : List Int) (w : World) (hi : i < n) (hn : n ≤ 1000000) (hl : ks.length = n) (f : FuncId) (caps : Array Value) (hf : ∀ vs w, (callFunc f vs).run Tryd.prog w = .ok (.enter f vs) w) (R S : Nat → Nat → World → Prop) (F E : World → Prop) (h0 : R i 1 w)
    (hcell : ∀ m o w', S m o w' → m < n → w'.cell? ⟨b, off + m * 4 + 3, none⟩ = some (.int .i64 (ks.getD m 0)))
    (found : ∀ (m : Nat) (w' : World), m ≤ n → R m 0 w' → Calls Tryd.prog f (#[.int .i64 m, .int .i64 0] ++ caps) w' fun e w'' => e = .returned (.bool true) ∧ F w'')
    (next : ∀ (m o : Nat) (oi : Int) (w' : World), m < n → o + 1 ≤ n - m → oi = ((o + 1 : Nat) : Int) → R m (o + 1) w' → Calls Tryd.prog f (#[.int .i64 m, .int .i64 oi] ++ caps) w' fun e w'' => e = .returned (.bool false) ∧ S m (o + 1) w'')
    (go : ∀ (m o : Nat) (w' : World), m < n → S m (o + 1) w' → 0 ≤ ks.getD m 0 → R (m + 1) (o + (ks.getD m 0).toNat) w') (bad : ∀ (m o : Nat) (w' : World), S m (o + 1) w' → E w') :
    Calls Tryd.prog 44 #[.slice (some ⟨b, off, none⟩) n c, .int .i64 i, .func (.func f) #[] caps] w (Done F E (fin ks i 1)) := by
  have HL := Lib.hid hl
  have HC := Lib.hid hcell
  have HN := Lib.hid next
  have HG := Lib.hid go
  have HB := Lib.hid bad
  have HD := Lib.hid found
  have HW := Lib.hid hf
  clear hl hcell next go bad found hf
  have u0 : decide ((i : Int) < 0) = false := by simp
  have u1 : decide (n ≤ i) = false := by simp; omega
  go_enter Tryd.func44, Tryd.ntmps44
  go_wp2
  refine wp_scope_jumps 0 (Jump b off n c (.func (.func f) #[] caps) fun m o w' => fin ks m o = fin ks i 1 ∧ R m o w') (fun a' _ => n - (intOf (a'.tmps.getD 1 undef)).toNat) rfl ?_ ?_
  · clear u0 u1
    have u0 : decide ((i : Int) < 0) = false := by simp
    have u1 : decide (n ≤ i) = false := by simp; omega
    obtain ⟨k, hk⟩ : ∃ k, k = ks.getD i 0 := ⟨_, rfl⟩
    have HK := Lib.hid hk
    clear hk
    by_cases k1 : k < 0
    · have t1 := k_neg k1
      go_wp2
      go_step3
      go_wp2_with ((refine wpList_call_slot (o := ⟨some 19, _, _, _, _, _⟩) rfl 16 _ _ rfl f caps rfl HW.out (#[.int .i64 (i : Nat), .int .i64 1] ++ caps) (by simp [go_sem]) ?_; refine (HN.out i 0 1 _ hi (by omega) rfl h0).mono ?_; rintro e w1 ⟨rfl, hs⟩; refine ⟨_, rfl, ?_⟩; simp only [Act.put, List.setIfInBounds_toArray, List.set_cons_succ, List.set_cons_zero]; have hc0 := HC.out _ _ _ hs hi; rw [← HK.out] at hc0))
      simp only [Exit.jump]
      go_ret
      have fx : fin ks i 1 = -1 := by show fin ks i (0 + 1) = -1; exact fin_neg ks i 0 (by rw [HL.out]; exact hi) (by rw [← HK.out]; exact k1)
      exact ⟨-1, fx.symm, rfl, .inr ⟨fx, HB.out _ _ _ hs⟩⟩
    · have t1 := k_pos k1
      by_cases k2 : (n : Int) - i - 1 < k
      · have t2 : decide ((n : Int) - i - 1 < k) = true := by simpa using k2
        go_wp2
        go_step3
        go_wp2_with ((refine wpList_call_slot (o := ⟨some 19, _, _, _, _, _⟩) rfl 16 _ _ rfl f caps rfl HW.out (#[.int .i64 (i : Nat), .int .i64 1] ++ caps) (by simp [go_sem]) ?_; refine (HN.out i 0 1 _ hi (by omega) rfl h0).mono ?_; rintro e w1 ⟨rfl, hs⟩; refine ⟨_, rfl, ?_⟩; simp only [Act.put, List.setIfInBounds_toArray, List.set_cons_succ, List.set_cons_zero]; have hc0 := HC.out _ _ _ hs hi; rw [← HK.out] at hc0))
        simp only [Exit.jump]
        go_ret
        have fx : fin ks i 1 = -1 := by show fin ks i (0 + 1) = -1; rw [fin_step ks i 0 (by rw [HL.out]; exact hi) (by rw [← HK.out]; omega)]; exact fin_many _ _ _ (by rw [HL.out]; omega) (by rw [HL.out, ← HK.out]; omega)
        exact ⟨-1, fx.symm, rfl, .inr ⟨fx, HB.out _ _ _ hs⟩⟩
      · have t2 : decide ((n : Int) - i - 1 < k) = false := by simpa using k2
        go_wp2
        go_step3
        go_wp2_with ((refine wpList_call_slot (o := ⟨some 19, _, _, _, _, _⟩) rfl 16 _ _ rfl f caps rfl HW.out (#[.int .i64 (i : Nat), .int .i64 1] ++ caps) (by simp [go_sem]) ?_; refine (HN.out i 0 1 _ hi (by omega) rfl h0).mono ?_; rintro e w1 ⟨rfl, hs⟩; refine ⟨_, rfl, ?_⟩; simp only [Act.put, List.setIfInBounds_toArray, List.set_cons_succ, List.set_cons_zero]; have hc0 := HC.out _ _ _ hs hi; rw [← HK.out] at hc0))
        go_step3
        have hgo := HG.out _ _ _ hi hs (by rw [← HK.out]; omega)
        have fx : fin ks (i + 1) (0 + k.toNat) = fin ks i 1 := by rw [HK.out]; exact (fin_step ks i 0 (by rw [HL.out]; exact hi) (by rw [← HK.out]; omega)).symm
        rw [← HK.out] at hgo
        exact ⟨rfl, .mk (i + 1) (0 + k.toNat) _ _ _ _ _ _ _ _ _ _ _ _ _ _ _ _ _ _ _ _ _ _ _ _ _ _ _ _ _ _ _ _ _ _ _ _ _ _ _ _ _ _ _ _ _ _ _ _ _ (by omega) (by omega) (by omega) (by omega) ⟨fx, hgo⟩⟩
  · clear u0 u1
    intro a' w' hJ
    rcases hJ with @⟨m, o, mi, oi, u8, u9, u10, u11, u12, u13, u14, u15, u16, u17, u18, u19, u21, u22, u23, u24, u25, u26, u27, u28, u29, u30, u31, u32, u33, u34, u35, u36, u37, u38, u39, u40, u41, u42, u43, u44, u45, u46, u47, u48, u49, u50, u51, u52, u53, u54, _, rfl, ho, hmn, hon, hf, hR⟩
    rcases o with _ | o
    · have fx : fin ks i 1 = (m : Int) := by rw [← hf, fin_zero]
      clear hf
      have HX := Lib.hid fx
      clear fx
      obtain rfl : oi = 0 := by simpa using ho
      go_wp2_with ((refine wpList_call_slot (o := ⟨some 19, _, _, _, _, _⟩) rfl 16 _ _ rfl f caps rfl HW.out (#[.int .i64 (m : Nat), .int .i64 0] ++ caps) (by simp [go_sem]) ?_; refine (HD.out m _ hmn hR).mono ?_; rintro e w1 ⟨rfl, hF⟩; refine ⟨_, rfl, ?_⟩; simp only [Act.put, List.setIfInBounds_toArray, List.set_cons_succ, List.set_cons_zero]))
      try simp only [Exit.jump]
      go_ret
      exact ⟨_, HX.out.symm, rfl, .inl ⟨by rw [HX.out]; omega, hF⟩⟩
    · have hm : m < n := by omega
      have o1 : (oi == 0) = false := by simp; omega
      have o2 : oi ≤ 1000000 := by omega
      have o3 : 1 ≤ oi := by omega
      have HO := Lib.hid ho
      clear ho
      obtain ⟨k, hk⟩ : ∃ k, k = ks.getD m 0 := ⟨_, rfl⟩
      have HK := Lib.hid hk
      clear hk
      have HF := Lib.hid hf
      clear hf
      by_cases k1 : k < 0
      · have t1 := k_neg k1
        go_wp2_with ((refine wpList_call_slot (o := ⟨some 19, _, _, _, _, _⟩) rfl 16 _ _ rfl f caps rfl HW.out (#[.int .i64 (m : Nat), .int .i64 oi] ++ caps) (by simp [go_sem]) ?_; refine (HN.out m o oi _ hm (by omega) HO.out hR).mono ?_; rintro e w1 ⟨rfl, hs⟩; refine ⟨_, rfl, ?_⟩; simp only [Act.put, List.setIfInBounds_toArray, List.set_cons_succ, List.set_cons_zero]; have hc0 := HC.out _ _ _ hs hm; rw [← HK.out] at hc0))
        simp only [Exit.jump]
        go_ret
        have fx : fin ks i 1 = -1 := by rw [← HF.out]; exact fin_neg ks m o (by rw [HL.out]; exact hm) (by rw [← HK.out]; exact k1)
        exact ⟨-1, fx.symm, rfl, .inr ⟨fx, HB.out _ _ _ hs⟩⟩
      · have t1 := k_pos k1
        by_cases k2 : (n : Int) - m - oi < k
        · have t2 : decide ((n : Int) - m - oi < k) = true := by simpa using k2
          go_wp2_with ((refine wpList_call_slot (o := ⟨some 19, _, _, _, _, _⟩) rfl 16 _ _ rfl f caps rfl HW.out (#[.int .i64 (m : Nat), .int .i64 oi] ++ caps) (by simp [go_sem]) ?_; refine (HN.out m o oi _ hm (by omega) HO.out hR).mono ?_; rintro e w1 ⟨rfl, hs⟩; refine ⟨_, rfl, ?_⟩; simp only [Act.put, List.setIfInBounds_toArray, List.set_cons_succ, List.set_cons_zero]; have hc0 := HC.out _ _ _ hs hm; rw [← HK.out] at hc0))
          simp only [Exit.jump]
          go_ret
          have fx : fin ks i 1 = -1 := by rw [← HF.out]; rw [fin_step ks m o (by rw [HL.out]; exact hm) (by rw [← HK.out]; omega)]; exact fin_many _ _ _ (by rw [HL.out]; omega) (by rw [HL.out, ← HK.out]; have := HO.out; omega)
          exact ⟨-1, fx.symm, rfl, .inr ⟨fx, HB.out _ _ _ hs⟩⟩
        · have t2 : decide ((n : Int) - m - oi < k) = false := by simpa using k2
          go_wp2_with ((refine wpList_call_slot (o := ⟨some 19, _, _, _, _, _⟩) rfl 16 _ _ rfl f caps rfl HW.out (#[.int .i64 (m : Nat), .int .i64 oi] ++ caps) (by simp [go_sem]) ?_; refine (HN.out m o oi _ hm (by omega) HO.out hR).mono ?_; rintro e w1 ⟨rfl, hs⟩; refine ⟨_, rfl, ?_⟩; simp only [Act.put, List.setIfInBounds_toArray, List.set_cons_succ, List.set_cons_zero]; have hc0 := HC.out _ _ _ hs hm; rw [← HK.out] at hc0))
          go_step3
          have hgo := HG.out _ _ _ hm hs (by rw [← HK.out]; omega)
          have fx : fin ks (m + 1) (o + k.toNat) = fin ks i 1 := by rw [← HF.out]; rw [HK.out]; exact (fin_step ks m o (by rw [HL.out]; exact hm) (by rw [← HK.out]; omega)).symm
          rw [← HK.out] at hgo
          exact ⟨rfl, .mk (m + 1) (o + k.toNat) _ _ _ _ _ _ _ _ _ _ _ _ _ _ _ _ _ _ _ _ _ _ _ _ _ _ _ _ _ _ _ _ _ _ _ _ _ _ _ _ _ _ _ _ _ _ _ _ _ (by omega) (by have := HO.out; omega) (by omega) (by have := HO.out; omega) ⟨fx, hgo⟩, by simp [intOf]; omega⟩
end Go.Proofs.YtncifeeinogcnaaDoor
/- Where a tree ends: tree.End, tree.Whole. -/
set_option maxRecDepth 100000
namespace Go.Proofs.YtncifeeinogcnaaDoor
open Go.RowKit Go.Proofs.TreeMath

theorem end_found (i o : Int) (w : World) (h : o = 0) : Calls Tryd.prog 45 #[.int .i64 i, .int .i64 o] w fun e w' => e = .returned (.bool true) ∧ w = w' := by
  subst h
  go_enter Tryd.func45, Tryd.ntmps45
  go_wp2
  go_ret
  exact ⟨rfl, rfl⟩
theorem end_not (i o : Int) (w : World) (h : (o == 0) = false) : Calls Tryd.prog 45 #[.int .i64 i, .int .i64 o] w fun e w' => e = .returned (.bool false) ∧ w = w' := by
  go_enter Tryd.func45, Tryd.ntmps45
  go_wp2
  go_ret
  exact ⟨rfl, rfl⟩
theorem search_end (b off n c i : Nat) (ks : List Int) (w : World) (hi : i < n) (hn : n ≤ 1000000) (hl : ks.length = n) (hc : ∀ m, m < n → w.cell? ⟨b, off + m * 4 + 3, none⟩ = some (.int .i64 (ks.getD m 0))) :
    Calls Tryd.prog 44 #[.slice (some ⟨b, off, none⟩) n c, .int .i64 i, .func (.func 45) #[] #[]] w fun e w' => e = .returned (.int .i64 (fin ks i 1)) ∧ w = w' := by
  refine (search_any b off n c i ks w hi hn hl 45 #[] call30 (fun _ _ w' => w = w') (fun _ _ w' => w = w') (fun w' => w = w') (fun w' => w = w') rfl ?_ ?_ ?_ ?_ ?_).mono ?_
  · rintro m o w' rfl hm
    exact hc m hm
  · rintro m w' _ rfl
    exact end_found m 0 w rfl
  · rintro m o oi w' _ _ ho rfl
    exact end_not m oi w (by simp; omega)
  · rintro m o w' _ rfl _
    rfl
  · rintro m o w' rfl
    rfl
  · rintro e w' ⟨y, rfl, rfl, ⟨_, h⟩ | ⟨_, h⟩⟩ <;> exact ⟨rfl, h⟩
/-- The search where it has nothing to search. -/
theorem search_out (p : Option Addr) (n c : Nat) (i : Int) (v : Value) (w : World) (h : i < 0 ∨ (n : Int) ≤ i) :
    Calls Tryd.prog 44 #[.slice p n c, .int .i64 i, v] w fun e w' => e = .returned (.int .i64 (-1)) ∧ w = w' := by
  have key : ∀ b : Bool, decide (i < 0) = b → (b = false → decide ((n : Int) ≤ i) = true) → Calls Tryd.prog 44 #[.slice p n c, .int .i64 i, v] w fun e w' => e = .returned (.int .i64 (-1)) ∧ w = w' := by
    intro b hb hb2
    cases b
    · have h1 := hb2 rfl
      go_enter Tryd.func44, Tryd.ntmps44
      go_wp2
      go_step3
      go_wp2
      rw [Exit.noGoto_ret]
      go_ret
      exact ⟨rfl, rfl⟩
    · go_enter Tryd.func44, Tryd.ntmps44
      go_wp2
      go_step3
      go_wp2
      rw [Exit.noGoto_ret]
      go_ret
      exact ⟨rfl, rfl⟩
  exact key _ rfl fun hb => by simp at hb ⊢; omega
/-- Where the tree at an index ends. -/
theorem end_any (v : Value) (ns : List Nd) (i : Int) (w : World) (h : NodesAt w v ns) (hn : ns.length ≤ 1000000) :
    Calls Tryd.prog 30 #[v, .int .i64 i] w fun e w' => e = .returned (.int .i64 (endI (kk ns) i)) ∧ w = w' := by
  obtain ⟨_, p, c, rfl, _, _, hp⟩ := h
  by_cases ho : i < 0 ∨ (ns.length : Int) ≤ i
  · have he := endI_out (kk ns) i (by rw [length_kk]; exact ho)
    rw [he]
    clear hp
    go_enter Tryd.func30, Tryd.ntmps30
    go_wp2_with ((go_at_call 44; refine (search_out _ _ _ _ _ _ ho).mono ?_; rintro e w' ⟨rfl, rfl⟩))
    go_ret
    exact ⟨rfl, rfl⟩
  · obtain ⟨m, rfl⟩ : ∃ m : Nat, i = m := ⟨i.toNat, by omega⟩
    obtain ⟨b, off, rfl, _, hc⟩ := hp (by omega)
    rw [endI_nat]
    have HC := Lib.hid hc
    clear hc hp
    go_enter Tryd.func30, Tryd.ntmps30
    go_wp2_with ((go_at_call 44; refine (search_end b off ns.length c m (kk ns) _ (by omega) hn (length_kk ns) (fun j hj => HC.out.kids j hj)).mono ?_; rintro e w' ⟨rfl, rfl⟩))
    go_ret
    exact ⟨rfl, rfl⟩
theorem whole_any (v : Value) (ns : List Nd) (w : World) (h : NodesAt w v ns) (hn : ns.length ≤ 1000000) :
    Calls Tryd.prog 28 #[v] w fun e w' => e = .returned (.bool (wholeB (kk ns))) ∧ w = w' := by
  obtain ⟨p, c, hv⟩ : ∃ p c, v = .slice p ns.length c := by obtain ⟨_, p, c, hv, _⟩ := h; exact ⟨p, c, hv⟩
  subst hv
  go_enter Tryd.func28, Tryd.ntmps28
  go_wp2_with ((go_at_call 30; refine (end_any _ ns _ _ h hn).mono ?_; rintro e w' ⟨rfl, rfl⟩))
  go_ret
  exact ⟨ret_bool (by simp [wholeB, length_kk]), rfl⟩
end Go.Proofs.YtncifeeinogcnaaDoor
