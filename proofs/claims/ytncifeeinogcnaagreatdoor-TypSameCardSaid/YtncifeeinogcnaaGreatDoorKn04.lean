/- Texts of this seat, one behind the other: TyE, Slot, Search, End, Own, Copy. -/
import Derived.Test.YtncifeeinogcnaaGreatDoorKn03
import Derived.WalkKit
import Derived.Test.YtncifeeinogcnaaGreatDoorRows
import Derived.Test.YtncifeeinogcnaaGreatDoorKn01
import Derived.Lib.Hide
import Derived.Maps.AppendAt
import Derived.Laws.CopyOwn
/- The contract of root. -/
set_option maxRecDepth 100000
namespace Go.Proofs.YtncifeeinogcnaaGreatDoor
open Go.RowKit Go.Lib Go.Proofs.TreeMath

theorem LeadsN.leads {by_ : Nat → Option Nat} {x r n : Nat} (h : LeadsN by_ x r n) : Leads by_ x r := by
  induction h with
  | stop h => exact .stop h
  | step h _ ih => exact .step h ih
theorem Leads.num {by_ : Nat → Option Nat} {x r : Nat} (h : Leads by_ x r) : ∃ n, LeadsN by_ x r n := by
  induction h with
  | stop h => exact ⟨0, .stop h⟩
  | step h _ ih => obtain ⟨n, hn⟩ := ih; exact ⟨n + 1, .step h hn⟩
theorem LeadsN.short {by_ : Nat → Option Nat} {x y z : Nat} (h1 : by_ x = some y) (h2 : by_ y = some z) {a r n : Nat} (h : LeadsN by_ a r n) : ∃ m, m ≤ n ∧ LeadsN (fun u => if u = x then some z else by_ u) a r m := by
  have skip : ∀ a r n, LeadsN by_ a r n → (∃ m, m ≤ n ∧ LeadsN (fun u => if u = x then some z else by_ u) a r m) ∧ (∀ c, by_ a = some c → ∃ m, m + 1 ≤ n ∧ LeadsN (fun u => if u = x then some z else by_ u) c r m) := by
    intro a r n h
    induction h with
    | @stop a h =>
      have hne : a ≠ x := by rintro rfl; rw [h] at h1; simp at h1
      exact ⟨⟨0, Nat.le_refl _, .stop (by simp [hne, h])⟩, fun c hc => by rw [h] at hc; simp at hc⟩
    | @step a c r n h k ih =>
      refine ⟨?_, fun c' hc => ?_⟩
      · by_cases e : a = x
        · subst e
          rw [h1] at h
          simp only [Option.some.injEq] at h
          subst h
          obtain ⟨m, hm, hl⟩ := ih.2 z h2
          exact ⟨m + 1, by omega, .step (by simp) hl⟩
        · obtain ⟨m, hm, hl⟩ := ih.1
          exact ⟨m + 1, by omega, .step (by simp [e, h]) hl⟩
      · rw [h] at hc
        simp only [Option.some.injEq] at hc
        subst hc
        obtain ⟨m, hm, hl⟩ := ih.1
        exact ⟨m, by omega, hl⟩
  exact (skip a r n h).1
/-- What root holds of its slot. -/
def RootR (B : Nat) (S : SS) (r : Nat) (w : World) (k : Nat) (p : Value) (wr : World) : Prop := ∃ y by_, p = pv y ∧ y ∈ S.dom ∧ TB B wr S by_ ∧ LeadsN by_ y r k ∧ Frm S.D w.heap.size w wr
def RootP (B : Nat) (S : SS) (r : Nat) (w : World) (e : Ending) (w' : World) : Prop := e = .returned (pv r) ∧ TW B w' S ∧ Frm S.D w.heap.size w w'
theorem TB.short {B : Nat} {w : World} {S : SS} {by_ : Nat → Option Nat} (h : TB B w S by_) {y c d : Nat} (hy : y ∈ S.dom) (h1 : by_ y = some c) (h2 : by_ c = some d) :
    TB B (w.setCell ⟨y, 5, none⟩ (.pointer (some ⟨d, 0, none⟩))) S (fun u => if u = y then some d else by_ u) := by
  refine h.put hy _ S rfl rfl rfl rfl (fun x => (h.lead x).short h1 h2) (fun x z e => ?_) (fun u hu => ⟨by simp [hu], rfl, rfl⟩) (fun kv _ _ => ⟨kv, by simp [tmCells, pvo, pv], fun e => by simp at e⟩)
  by_cases e2 : x = y
  · simp only [e2, if_true, Option.some.injEq] at e
    subst e
    exact h.bin c _ h2
  · simp only [e2, if_false] at e
    exact h.bin x z e
set_option maxHeartbeats 1000000 in
theorem root_any (B : Nat) (S : SS) (x : Nat) (w : World) (hx : x ∈ S.dom) (h : TW B w S) : Calls Tryz.prog 58 #[pv x] w (RootP B S (S.rep x) w) := by
  obtain ⟨by0, hT⟩ := h
  obtain ⟨n0, hn0⟩ := (hT.lead x).num
  generalize S.rep x = r at *
  have start : RootR B S r w n0 (pv x) w := ⟨x, by0, rfl, hx, hT, hn0, Frm.refl _ _ _⟩
  clear hn0 hT hx
  unfold pv at start ⊢
  go_enter Tryz.func58, Tryz.ntmps58
  go_wp2
  go_loopg [0] n0 (fun k p wr => RootR B S r w k p wr)
  case atStart => exact start
  case round =>
    clear start
    obtain ⟨y, by1, rfl, hy, hT, hn, hF⟩ := hrel
    unfold pv
    cases hn with
    | stop h0 =>
      obtain ⟨kv, _, _, _, _, _, c5, _, _, fz, _⟩ := hT.cells hy
      rw [h0] at c5
      unfold pvo at c5
      have E := Lib.hid (show RootP B S r w (.returned (.pointer (some ⟨r, 0, none⟩))) wr from ⟨rfl, ⟨by1, hT⟩, hF⟩)
      clear fz hT hF h0
      go_wp2
      go_ret
      exact E.out
    | @step _ c _ m h1 hm =>
      obtain ⟨kv, _, _, _, _, _, c5, _, _, fz, _⟩ := hT.cells hy
      have hc := hT.bin y c h1
      obtain ⟨kv2, _, _, _, _, _, d5, _, _, fz2, _⟩ := hT.cells hc
      rw [h1] at c5
      unfold pvo pv at c5
      have f5 := fz 5
      clear fz fz2
      cases hm with
      | stop h2 =>
        rw [h2] at d5
        unfold pvo at d5
        have E := Lib.hid (show RootR B S r w 0 (.pointer (some ⟨r, 0, none⟩)) wr from ⟨r, by1, rfl, hc, hT, .stop h2, hF⟩)
        clear hT hF h1 h2 hc hy
        go_wp2
        go_roundg 0
        case measure => omega
        case rel => exact E.out
      | @step _ d _ m h2 hm =>
        rw [h2] at d5
        unfold pvo pv at d5
        have T2 := hT.short hy h1 h2
        obtain ⟨m2, hm2, hl2⟩ := hm.short h1 h2
        have c52 := (T2.cells hy)
        obtain ⟨kv3, _, _, _, _, _, e5, _, _, _, _⟩ := c52
        simp only [if_true, pvo, pv] at e5
        have E := Lib.hid (show RootR B S r w m2 (.pointer (some ⟨d, 0, none⟩)) (wr.setCell ⟨y, 5, none⟩ (.pointer (some ⟨d, 0, none⟩))) from ⟨d, _, rfl, hT.bin c d h2, T2, hl2, hF.setCell (x := y) (i := 5) hy _⟩)
        clear hT hF h1 h2 hc hy T2 hm hl2
        go_wp2
        go_roundg m2
        case measure => omega
        case rel => exact E.out
end Go.Proofs.YtncifeeinogcnaaGreatDoor
/- A call of a function value that lies in a slot, as a law for the walk. -/
namespace Go
theorem wpList_call_slot {P : Program} {w : World} {ops : Array Oper} {rest : List Oper} {o : Oper} {a : Act} {Q : Exit → Act → World → Prop} (hgd : o.guard = none) (t : Tmp) (xs : Array Operand) (ats : Array TypeId)
    (ho : o.op = .call { callee := .value (.tmp t), args := xs, argTypes := ats }) (f : FuncId) (cap : Array Value) (hv : a.eval (.tmp t) = .func (.func f) #[] cap) (hf : ∀ vs w, (callFunc f vs).run P w = .ok (.enter f vs) w) (vs : Array Value) (hx : xs.map a.eval ++ cap = vs)
    (h : Calls P f vs w fun e w' => ∃ v, e = .returned v ∧ wpList P ops Q rest (a.put o.dst v) w') : wpList P ops Q (o :: rest) a w := by
  refine wpList_plain hgd fun K hK => ?_
  subst hx
  unfold Oper.wp
  have e : execOp a.eval o = callFunc f (xs.map a.eval ++ cap) := by
    obtain ⟨dst, op, ty, pos, after, guard⟩ := o
    simp only at ho
    subst ho
    simp [execOp, resolve, invoke, hv, Deferred.ofValue]
  rw [e, hf, Oper.upon_enter]
  refine h.mono ?_
  rintro e w' ⟨v, rfl, hw⟩
  exact hK _ _ hw
/-- The same where the operation is guarded, and its guard says yes. -/
theorem wpList_call_slot_if {P : Program} {w : World} {ops : Array Oper} {rest : List Oper} {o : Oper} {a : Act} {Q : Exit → Act → World → Prop} (hgd : Region.wanted o (yielded ops a.tmps) = true) (t : Tmp) (xs : Array Operand) (ats : Array TypeId)
    (ho : o.op = .call { callee := .value (.tmp t), args := xs, argTypes := ats }) (f : FuncId) (cap : Array Value) (hv : a.eval (.tmp t) = .func (.func f) #[] cap) (hf : ∀ vs w, (callFunc f vs).run P w = .ok (.enter f vs) w) (vs : Array Value) (hx : xs.map a.eval ++ cap = vs)
    (h : Calls P f vs w fun e w' => ∃ v, e = .returned v ∧ wpList P ops Q rest (a.put o.dst v) w') : wpList P ops Q (o :: rest) a w := by
  refine wpList_step fun K hK => ?_
  rw [if_pos hgd]
  subst hx
  unfold Oper.wp
  have e : execOp a.eval o = callFunc f (xs.map a.eval ++ cap) := by
    obtain ⟨dst, op, ty, pos, after, guard⟩ := o
    simp only at ho
    subst ho
    simp [execOp, resolve, invoke, hv, Deferred.ofValue]
  rw [e, hf, Oper.upon_enter]
  refine h.mono ?_
  rintro e w' ⟨v, rfl, hw⟩
  exact hK _ _ hw
theorem run_callFunc {P : Program} {f : FuncId} {fn : Func} (hq : P.funcs[f]? = some fn) (hn : (fn.name == "runtime.NumGoroutine") = false) (hb : fn.body.isNone = false) (vs : Array Value) (w : World) : (callFunc f vs).run P w = .ok (.enter f vs) w := by
  have hn' : ¬ fn.name = "runtime.NumGoroutine" := by simpa using hn
  have hb' : ¬ fn.body = none := fun h => by simp [h] at hb
  unfold callFunc
  simp [hq, hn', hb']
end Go
namespace Go.Proofs.YtncifeeinogcnaaGreatDoor
theorem call30 (vs : Array Value) (w : World) : (callFunc 113 vs).run Tryz.prog w = .ok (.enter 113 vs) w := run_callFunc Tryz.func113 (by kernel_rfl) (by kernel_rfl) vs w
end Go.Proofs.YtncifeeinogcnaaGreatDoor
/- The search through a list of nodes, with each of the three functions that it is given. -/
set_option maxRecDepth 100000
namespace Go.Proofs.YtncifeeinogcnaaGreatDoor
open Go.RowKit Go.Proofs.TreeMath

theorem ret_int {k : IntKind} {a b : Int} (h : a = b) : Ending.returned (.int k a) = .returned (.int k b) := by rw [h]
theorem ret_bool {a b : Bool} (h : a = b) : Ending.returned (.bool a) = .returned (.bool b) := by rw [h]
theorem k_neg {k : Int} (h : k < 0) : decide (k < 0) = true := by simpa using h
theorem k_pos {k : Int} (h : ¬ k < 0) : decide (k < 0) = false := by simpa using h
def Done (F E : World → Prop) (x : Int) (e : Ending) (w : World) : Prop := ∃ y : Int, y = x ∧ e = .returned (.int .i64 y) ∧ ((0 ≤ x ∧ F w) ∨ (x = -1 ∧ E w))
/-- What holds at each jump back: m the node at hand, o the open trees. -/
inductive Jump (b off n c : Nat) (FV : Value) (R : Nat → Nat → World → Prop) : Act → World → Prop
  | mk (m o : Nat) (mi oi : Int) (u8 u9 u10 u11 u12 u13 u14 u15 u16 u17 u18 u19 u21 u22 u23 u24 u25 u26 u27 u28 u29 u30 u31 u32 u33 u34 u35 u36 u37 u38 u39 u40 u41 u42 u43 u44 u45 u46 u47 u48 u49 u50 u51 u52 u53 u54 : Value) (w : World) (hmi : mi = (m : Int)) (hoi : oi = (o : Int)) (hmn : m ≤ n) (hon : o ≤ n - m) (hr : R m o w) : Jump b off n c FV R { tmps := #[Value.slice (some ⟨b, off, none⟩) n c, .int .i64 mi, FV, undef, undef, undef, .int .i64 0, .int .i64 oi, u8, u9, u10, u11, u12, u13, u14, u15, u16, u17, u18, u19, undef, u21, u22, u23, u24, u25, u26, u27, u28, u29, u30, u31, u32, u33, u34, u35, u36, u37, u38, u39, u40, u41, u42, u43, u44, u45, u46, u47, u48, u49, u50, u51, u52, u53, u54], defers := [] } w
set_option maxRecDepth 100000 in
set_option maxHeartbeats 2000000 in
theorem search_any (b off n c i : Nat) (ks : List Int) (w : World) (hi : i < n) (hn : n ≤ 1000000) (hl : ks.length = n) (f : FuncId) (caps : Array Value) (hf : ∀ vs w, (callFunc f vs).run Tryz.prog w = .ok (.enter f vs) w) (R S : Nat → Nat → World → Prop) (F E : World → Prop) (h0 : R i 1 w)
    (hcell : ∀ m o w', S m o w' → m < n → w'.cell? ⟨b, off + m * 4 + 3, none⟩ = some (.int .i64 (ks.getD m 0)))
    (found : ∀ (m : Nat) (w' : World), m ≤ n → R m 0 w' → Calls Tryz.prog f (#[.int .i64 m, .int .i64 0] ++ caps) w' fun e w'' => e = .returned (.bool true) ∧ F w'')
    (next : ∀ (m o : Nat) (oi : Int) (w' : World), m < n → o + 1 ≤ n - m → oi = ((o + 1 : Nat) : Int) → R m (o + 1) w' → Calls Tryz.prog f (#[.int .i64 m, .int .i64 oi] ++ caps) w' fun e w'' => e = .returned (.bool false) ∧ S m (o + 1) w'')
    (go : ∀ (m o : Nat) (w' : World), m < n → S m (o + 1) w' → 0 ≤ ks.getD m 0 → R (m + 1) (o + (ks.getD m 0).toNat) w') (bad : ∀ (m o : Nat) (w' : World), S m (o + 1) w' → E w') :
    Calls Tryz.prog 112 #[.slice (some ⟨b, off, none⟩) n c, .int .i64 i, .func (.func f) #[] caps] w (Done F E (fin ks i 1)) := by
  have HL := Lib.hid hl
  have HC := Lib.hid hcell
  have HN := Lib.hid next
  have HG := Lib.hid go
  have HB := Lib.hid bad
  have HD := Lib.hid found
  have HW := Lib.hid hf
  clear hl hcell next go bad found hf
  have u0 : decide ((i : Int) < 0) = false := by simp
  have u1 : decide (n ≤ i) = false := by simp; omega
  go_enter Tryz.func112, Tryz.ntmps112
  go_wp2
  refine wp_scope_jumps 0 (Jump b off n c (.func (.func f) #[] caps) fun m o w' => fin ks m o = fin ks i 1 ∧ R m o w') (fun a' _ => n - (intOf (a'.tmps.getD 1 undef)).toNat) rfl ?_ ?_
  · clear u0 u1
    have u0 : decide ((i : Int) < 0) = false := by simp
    have u1 : decide (n ≤ i) = false := by simp; omega
    obtain ⟨k, hk⟩ : ∃ k, k = ks.getD i 0 := ⟨_, rfl⟩
    have HK := Lib.hid hk
    clear hk
    by_cases k1 : k < 0
    · have t1 := k_neg k1
      go_wp2
      go_step3
      go_wp2_with ((refine wpList_call_slot (o := ⟨some 19, _, _, _, _, _⟩) rfl 16 _ _ rfl f caps rfl HW.out (#[.int .i64 (i : Nat), .int .i64 1] ++ caps) (by simp [go_sem]) ?_; refine (HN.out i 0 1 _ hi (by omega) rfl h0).mono ?_; rintro e w1 ⟨rfl, hs⟩; refine ⟨_, rfl, ?_⟩; simp only [Act.put, List.setIfInBounds_toArray, List.set_cons_succ, List.set_cons_zero]; have hc0 := HC.out _ _ _ hs hi; rw [← HK.out] at hc0))
      simp only [Exit.jump]
      go_ret
      have fx : fin ks i 1 = -1 := by show fin ks i (0 + 1) = -1; exact fin_neg ks i 0 (by rw [HL.out]; exact hi) (by rw [← HK.out]; exact k1)
      exact ⟨-1, fx.symm, rfl, .inr ⟨fx, HB.out _ _ _ hs⟩⟩
    · have t1 := k_pos k1
      by_cases k2 : (n : Int) - i - 1 < k
      · have t2 : decide ((n : Int) - i - 1 < k) = true := by simpa using k2
        go_wp2
        go_step3
        go_wp2_with ((refine wpList_call_slot (o := ⟨some 19, _, _, _, _, _⟩) rfl 16 _ _ rfl f caps rfl HW.out (#[.int .i64 (i : Nat), .int .i64 1] ++ caps) (by simp [go_sem]) ?_; refine (HN.out i 0 1 _ hi (by omega) rfl h0).mono ?_; rintro e w1 ⟨rfl, hs⟩; refine ⟨_, rfl, ?_⟩; simp only [Act.put, List.setIfInBounds_toArray, List.set_cons_succ, List.set_cons_zero]; have hc0 := HC.out _ _ _ hs hi; rw [← HK.out] at hc0))
        simp only [Exit.jump]
        go_ret
        have fx : fin ks i 1 = -1 := by show fin ks i (0 + 1) = -1; rw [fin_step ks i 0 (by rw [HL.out]; exact hi) (by rw [← HK.out]; omega)]; exact fin_many _ _ _ (by rw [HL.out]; omega) (by rw [HL.out, ← HK.out]; omega)
        exact ⟨-1, fx.symm, rfl, .inr ⟨fx, HB.out _ _ _ hs⟩⟩
      · have t2 : decide ((n : Int) - i - 1 < k) = false := by simpa using k2
        go_wp2
        go_step3
        go_wp2_with ((refine wpList_call_slot (o := ⟨some 19, _, _, _, _, _⟩) rfl 16 _ _ rfl f caps rfl HW.out (#[.int .i64 (i : Nat), .int .i64 1] ++ caps) (by simp [go_sem]) ?_; refine (HN.out i 0 1 _ hi (by omega) rfl h0).mono ?_; rintro e w1 ⟨rfl, hs⟩; refine ⟨_, rfl, ?_⟩; simp only [Act.put, List.setIfInBounds_toArray, List.set_cons_succ, List.set_cons_zero]; have hc0 := HC.out _ _ _ hs hi; rw [← HK.out] at hc0))
        go_step3
        have hgo := HG.out _ _ _ hi hs (by rw [← HK.out]; omega)
        have fx : fin ks (i + 1) (0 + k.toNat) = fin ks i 1 := by rw [HK.out]; exact (fin_step ks i 0 (by rw [HL.out]; exact hi) (by rw [← HK.out]; omega)).symm
        rw [← HK.out] at hgo
        exact ⟨rfl, .mk (i + 1) (0 + k.toNat) _ _ _ _ _ _ _ _ _ _ _ _ _ _ _ _ _ _ _ _ _ _ _ _ _ _ _ _ _ _ _ _ _ _ _ _ _ _ _ _ _ _ _ _ _ _ _ _ _ (by omega) (by omega) (by omega) (by omega) ⟨fx, hgo⟩⟩
  · clear u0 u1
    intro a' w' hJ
    rcases hJ with @⟨m, o, mi, oi, u8, u9, u10, u11, u12, u13, u14, u15, u16, u17, u18, u19, u21, u22, u23, u24, u25, u26, u27, u28, u29, u30, u31, u32, u33, u34, u35, u36, u37, u38, u39, u40, u41, u42, u43, u44, u45, u46, u47, u48, u49, u50, u51, u52, u53, u54, _, rfl, ho, hmn, hon, hf, hR⟩
    rcases o with _ | o
    · have fx : fin ks i 1 = (m : Int) := by rw [← hf, fin_zero]
      clear hf
      have HX := Lib.hid fx
      clear fx
      obtain rfl : oi = 0 := by simpa using ho
      go_wp2_with ((refine wpList_call_slot (o := ⟨some 19, _, _, _, _, _⟩) rfl 16 _ _ rfl f caps rfl HW.out (#[.int .i64 (m : Nat), .int .i64 0] ++ caps) (by simp [go_sem]) ?_; refine (HD.out m _ hmn hR).mono ?_; rintro e w1 ⟨rfl, hF⟩; refine ⟨_, rfl, ?_⟩; simp only [Act.put, List.setIfInBounds_toArray, List.set_cons_succ, List.set_cons_zero]))
      try simp only [Exit.jump]
      go_ret
      exact ⟨_, HX.out.symm, rfl, .inl ⟨by rw [HX.out]; omega, hF⟩⟩
    · have hm : m < n := by omega
      have o1 : (oi == 0) = false := by simp; omega
      have o2 : oi ≤ 1000000 := by omega
      have o3 : 1 ≤ oi := by omega
      have HO := Lib.hid ho
      clear ho
      obtain ⟨k, hk⟩ : ∃ k, k = ks.getD m 0 := ⟨_, rfl⟩
      have HK := Lib.hid hk
      clear hk
      have HF := Lib.hid hf
      clear hf
      by_cases k1 : k < 0
      · have t1 := k_neg k1
        go_wp2_with ((refine wpList_call_slot (o := ⟨some 19, _, _, _, _, _⟩) rfl 16 _ _ rfl f caps rfl HW.out (#[.int .i64 (m : Nat), .int .i64 oi] ++ caps) (by simp [go_sem]) ?_; refine (HN.out m o oi _ hm (by omega) HO.out hR).mono ?_; rintro e w1 ⟨rfl, hs⟩; refine ⟨_, rfl, ?_⟩; simp only [Act.put, List.setIfInBounds_toArray, List.set_cons_succ, List.set_cons_zero]; have hc0 := HC.out _ _ _ hs hm; rw [← HK.out] at hc0))
        simp only [Exit.jump]
        go_ret
        have fx : fin ks i 1 = -1 := by rw [← HF.out]; exact fin_neg ks m o (by rw [HL.out]; exact hm) (by rw [← HK.out]; exact k1)
        exact ⟨-1, fx.symm, rfl, .inr ⟨fx, HB.out _ _ _ hs⟩⟩
      · have t1 := k_pos k1
        by_cases k2 : (n : Int) - m - oi < k
        · have t2 : decide ((n : Int) - m - oi < k) = true := by simpa using k2
          go_wp2_with ((refine wpList_call_slot (o := ⟨some 19, _, _, _, _, _⟩) rfl 16 _ _ rfl f caps rfl HW.out (#[.int .i64 (m : Nat), .int .i64 oi] ++ caps) (by simp [go_sem]) ?_; refine (HN.out m o oi _ hm (by omega) HO.out hR).mono ?_; rintro e w1 ⟨rfl, hs⟩; refine ⟨_, rfl, ?_⟩; simp only [Act.put, List.setIfInBounds_toArray, List.set_cons_succ, List.set_cons_zero]; have hc0 := HC.out _ _ _ hs hm; rw [← HK.out] at hc0))
          simp only [Exit.jump]
          go_ret
          have fx : fin ks i 1 = -1 := by rw [← HF.out]; rw [fin_step ks m o (by rw [HL.out]; exact hm) (by rw [← HK.out]; omega)]; exact fin_many _ _ _ (by rw [HL.out]; omega) (by rw [HL.out, ← HK.out]; have := HO.out; omega)
          exact ⟨-1, fx.symm, rfl, .inr ⟨fx, HB.out _ _ _ hs⟩⟩
        · have t2 : decide ((n : Int) - m - oi < k) = false := by simpa using k2
          go_wp2_with ((refine wpList_call_slot (o := ⟨some 19, _, _, _, _, _⟩) rfl 16 _ _ rfl f caps rfl HW.out (#[.int .i64 (m : Nat), .int .i64 oi] ++ caps) (by simp [go_sem]) ?_; refine (HN.out m o oi _ hm (by omega) HO.out hR).mono ?_; rintro e w1 ⟨rfl, hs⟩; refine ⟨_, rfl, ?_⟩; simp only [Act.put, List.setIfInBounds_toArray, List.set_cons_succ, List.set_cons_zero]; have hc0 := HC.out _ _ _ hs hm; rw [← HK.out] at hc0))
          go_step3
          have hgo := HG.out _ _ _ hm hs (by rw [← HK.out]; omega)
          have fx : fin ks (m + 1) (o + k.toNat) = fin ks i 1 := by rw [← HF.out]; rw [HK.out]; exact (fin_step ks m o (by rw [HL.out]; exact hm) (by rw [← HK.out]; omega)).symm
          rw [← HK.out] at hgo
          exact ⟨rfl, .mk (m + 1) (o + k.toNat) _ _ _ _ _ _ _ _ _ _ _ _ _ _ _ _ _ _ _ _ _ _ _ _ _ _ _ _ _ _ _ _ _ _ _ _ _ _ _ _ _ _ _ _ _ _ _ _ _ (by omega) (by have := HO.out; omega) (by omega) (by have := HO.out; omega) ⟨fx, hgo⟩, by simp [intOf]; omega⟩
end Go.Proofs.YtncifeeinogcnaaGreatDoor
/- Where a tree ends: tree.End, tree.Whole. -/
set_option maxRecDepth 100000
namespace Go.Proofs.YtncifeeinogcnaaGreatDoor
open Go.RowKit Go.Proofs.TreeMath

theorem end_found (i o : Int) (w : World) (h : o = 0) : Calls Tryz.prog 113 #[.int .i64 i, .int .i64 o] w fun e w' => e = .returned (.bool true) ∧ w = w' := by
  subst h
  go_enter Tryz.func113, Tryz.ntmps113
  go_wp2
  go_ret
  exact ⟨rfl, rfl⟩
theorem end_not (i o : Int) (w : World) (h : (o == 0) = false) : Calls Tryz.prog 113 #[.int .i64 i, .int .i64 o] w fun e w' => e = .returned (.bool false) ∧ w = w' := by
  go_enter Tryz.func113, Tryz.ntmps113
  go_wp2
  go_ret
  exact ⟨rfl, rfl⟩
theorem search_end (b off n c i : Nat) (ks : List Int) (w : World) (hi : i < n) (hn : n ≤ 1000000) (hl : ks.length = n) (hc : ∀ m, m < n → w.cell? ⟨b, off + m * 4 + 3, none⟩ = some (.int .i64 (ks.getD m 0))) :
    Calls Tryz.prog 112 #[.slice (some ⟨b, off, none⟩) n c, .int .i64 i, .func (.func 113) #[] #[]] w fun e w' => e = .returned (.int .i64 (fin ks i 1)) ∧ w = w' := by
  refine (search_any b off n c i ks w hi hn hl 113 #[] call30 (fun _ _ w' => w = w') (fun _ _ w' => w = w') (fun w' => w = w') (fun w' => w = w') rfl ?_ ?_ ?_ ?_ ?_).mono ?_
  · rintro m o w' rfl hm
    exact hc m hm
  · rintro m w' _ rfl
    exact end_found m 0 w rfl
  · rintro m o oi w' _ _ ho rfl
    exact end_not m oi w (by simp; omega)
  · rintro m o w' _ rfl _
    rfl
  · rintro m o w' rfl
    rfl
  · rintro e w' ⟨y, rfl, rfl, ⟨_, h⟩ | ⟨_, h⟩⟩ <;> exact ⟨rfl, h⟩
/-- The search where it has nothing to search. -/
theorem search_out (p : Option Addr) (n c : Nat) (i : Int) (v : Value) (w : World) (h : i < 0 ∨ (n : Int) ≤ i) :
    Calls Tryz.prog 112 #[.slice p n c, .int .i64 i, v] w fun e w' => e = .returned (.int .i64 (-1)) ∧ w = w' := by
  have key : ∀ b : Bool, decide (i < 0) = b → (b = false → decide ((n : Int) ≤ i) = true) → Calls Tryz.prog 112 #[.slice p n c, .int .i64 i, v] w fun e w' => e = .returned (.int .i64 (-1)) ∧ w = w' := by
    intro b hb hb2
    cases b
    · have h1 := hb2 rfl
      go_enter Tryz.func112, Tryz.ntmps112
      go_wp2
      go_step3
      go_wp2
      rw [Exit.noGoto_ret]
      go_ret
      exact ⟨rfl, rfl⟩
    · go_enter Tryz.func112, Tryz.ntmps112
      go_wp2
      go_step3
      go_wp2
      rw [Exit.noGoto_ret]
      go_ret
      exact ⟨rfl, rfl⟩
  exact key _ rfl fun hb => by simp at hb ⊢; omega
/-- Where the tree at an index ends. -/
theorem end_any (v : Value) (ns : List Nd) (i : Int) (w : World) (h : NodesAt w v ns) (hn : ns.length ≤ 1000000) :
    Calls Tryz.prog 76 #[v, .int .i64 i] w fun e w' => e = .returned (.int .i64 (endI (kk ns) i)) ∧ w = w' := by
  obtain ⟨_, p, c, rfl, _, _, hp⟩ := h
  by_cases ho : i < 0 ∨ (ns.length : Int) ≤ i
  · have he := endI_out (kk ns) i (by rw [length_kk]; exact ho)
    rw [he]
    clear hp
    go_enter Tryz.func76, Tryz.ntmps76
    go_wp2_with ((go_at_call 112; refine (search_out _ _ _ _ _ _ ho).mono ?_; rintro e w' ⟨rfl, rfl⟩))
    go_ret
    exact ⟨rfl, rfl⟩
  · obtain ⟨m, rfl⟩ : ∃ m : Nat, i = m := ⟨i.toNat, by omega⟩
    obtain ⟨b, off, rfl, _, hc⟩ := hp (by omega)
    rw [endI_nat]
    have HC := Lib.hid hc
    clear hc hp
    go_enter Tryz.func76, Tryz.ntmps76
    go_wp2_with ((go_at_call 112; refine (search_end b off ns.length c m (kk ns) _ (by omega) hn (length_kk ns) (fun j hj => HC.out.kids j hj)).mono ?_; rintro e w' ⟨rfl, rfl⟩))
    go_ret
    exact ⟨rfl, rfl⟩
theorem whole_any (v : Value) (ns : List Nd) (w : World) (h : NodesAt w v ns) (hn : ns.length ≤ 1000000) :
    Calls Tryz.prog 49 #[v] w fun e w' => e = .returned (.bool (wholeB (kk ns))) ∧ w = w' := by
  obtain ⟨p, c, hv⟩ : ∃ p c, v = .slice p ns.length c := by obtain ⟨_, p, c, hv, _⟩ := h; exact ⟨p, c, hv⟩
  subst hv
  go_enter Tryz.func49, Tryz.ntmps49
  go_wp2_with ((go_at_call 76; refine (end_any _ ns _ _ h hn).mono ?_; rintro e w' ⟨rfl, rfl⟩))
  go_ret
  exact ⟨ret_bool (by simp [wholeB, length_kk]), rfl⟩
end Go.Proofs.YtncifeeinogcnaaGreatDoor
/- A list of nodes of its own memory: the laws' own. -/
set_option maxRecDepth 100000
namespace Go.Proofs.YtncifeeinogcnaaGreatDoor
open Go.RowKit Go.Proofs.TreeMath
theorem info_of' {P : Program} {t : TypeId} {z : Value} {s b : Nat} (h : (P.info? t).map (fun i => (i.zero, i.size, i.bytes)) = some (some z, s, b)) : ∃ i, P.info? t = some i ∧ i.zero = some z ∧ i.size = s ∧ i.bytes = b := by
  cases hq : P.info? t with
  | none => rw [hq] at h; simp at h
  | some i => rw [hq] at h; simp at h; exact ⟨i, rfl, h.1, h.2.1, h.2.2⟩
def zeroNode : Value := .agg #[.int .i64 0, .string ByteArray.empty, .int .i64 0, .int .i64 0]
theorem infoNode : ∃ i, Tryz.prog.info? 58 = some i ∧ i.zero = some zeroNode ∧ i.size = 4 ∧ i.bytes = 40 := info_of' (by kernel_rfl)
/-- A function that returns a new list of nodes. -/
def NRet (W : World) (ns : List Nd) (e : Ending) (w' : World) : Prop := ∃ v', e = .returned v' ∧ NodesAt w' v' ns ∧ Below W.heap.size W w'
theorem own_zero (p : Option Addr) (c : Nat) (w : World) : Calls Tryz.prog 12 #[.slice p 0 c] w (NRet w []) := by
  rcases p with _ | a <;>
  · go_enter Tryz.func12, Tryz.ntmps12
    go_wp2
    go_ret
    exact ⟨_, rfl, ⟨rfl, _, _, rfl, Nat.le_refl _, by unfold maxLen; omega, fun h => absurd rfl h⟩, (Below.refl _ _).alloc (Nat.le_refl _) _⟩
theorem CellsIn.at {w : World} {b off : Nat} {cs : List Value} (h : CellsIn w b off cs) : ∀ j u, cs[j]? = some u → w.cell? ((⟨b, off, none⟩ : Addr).add j) = some u := by
  intro j u hj
  rw [Go.WideShapes.add_plain]
  exact h j u hj
theorem own_some (b off c : Nat) (ns : List Nd) (w : World) (hb : b < w.heap.size) (hc : Hid (CellsIn w b off (nodeCells ns))) (hn : ns.length ≤ 1000000) : Calls Tryz.prog 12 #[.slice (some ⟨b, off, none⟩) ns.length c] w (NRet w ns) := by
  obtain ⟨i0, hi, hz0, hz1, hz2⟩ := infoNode
  have HI := Lib.hid (And.intro hi (And.intro hz0 (And.intro hz1 hz2)))
  clear hi hz0 hz1 hz2
  go_enter Tryz.func12, Tryz.ntmps12
  go_wp2_with ((at_builtin; refine wpList_append_own _ rfl _ _ 22 rfl w.heap.size 58 i0 zeroNode 4 40 Tryz.underlying22 HI.out.1 HI.out.2.1 HI.out.2.2.1 HI.out.2.2.2 rfl (by decide) _ 0 [] rfl (World.ownsRow_made w #[] 0 (Nat.le_refl _) (Nat.zero_le _) rfl) ⟨b, off, none⟩ ns.length c (nodeCells ns) rfl (length_nodeCells ns) (hc.out.kept (Below.heap_alloc _ _ b hb)).at (nodeCells_one ns) (by unfold maxLen; omega) (by omega) (by simp) ?_; intro v' w3 hown' hgrow hnil; have HO3 := Lib.hid hown'; have HG := Lib.hid hgrow; clear hown' hgrow hnil))
  go_ret
  refine ⟨_, rfl, ?_, ?_⟩
  · have := SliceAt.of_owns HO3.out
    simpa [NodesAt] using this
  · exact ((Below.refl _ _).alloc (Nat.le_refl _) _).grown HG.out (by simp) fun k hk => by
      have hk' : some w.heap.size = some k := hk
      simp at hk'
      omega
theorem own_any (v : Value) (ns : List Nd) (w : World) (h : NodesAt w v ns) (hn : ns.length ≤ 1000000) : Calls Tryz.prog 12 #[v] w (NRet w ns) := by
  obtain ⟨_, p, c, rfl, _, _, hp⟩ := h
  rcases ns with _ | ⟨x, ns⟩
  · exact own_zero p c w
  · obtain ⟨b, off, rfl, hb, hc⟩ := hp (by simp)
    exact own_some b off c (x :: ns) w hb hc hn
end Go.Proofs.YtncifeeinogcnaaGreatDoor
/- 'copy' between slices whose elements are of several cells, as a law for the walk. -/
namespace Go
open Go.RowKit
theorem run_copy_many {P : Program} (w : World) (dT sT ty elem : TypeId) (k m : Nat) (dp sp : Option Addr) (dLen dCap sLen sCap : Nat) (hu : P.underlying dT = some (.slice elem)) (hs : (P.info? elem).map (·.size) = some k)
    (hm : m = min sLen dLen) (g off : Nat) (cur : List Value) (t : TypeId) (hg : w.heap[g]? = some (.cells cur.toArray t (0, 0))) (cs : List Value) (hn : cs.length = m * k)
    (hpos : 0 < m → dp = some ⟨g, off, none⟩ ∧ ∃ ad, sp = some ad ∧ ∀ j v, cs[j]? = some v → w.cell? (ad.add j) = some v) (hfit : off + cs.length ≤ cur.length) (h1 : ∀ v ∈ cs, v.oneCell' = true) :
    (Builtin.copy_ #[dT, sT] ty #[.slice dp dLen dCap, .slice sp sLen sCap]).run P w = .ok (goInt m) (if m = 0 then w else w.setRow g (splice cur off cs).toArray) := by
  cases hq : P.info? elem with
  | none => simp [hq] at hs
  | some i =>
    have hi : i.size = k := by simpa [hq] using hs
    by_cases h0 : m = 0
    · subst h0
      rw [if_pos rfl]
      have hmm : Nat.min sLen dLen = 0 := hm.symm
      cases sp with
      | none => cases dp <;> simp [Builtin.copy_, run_underlying hu, Builtin.lenOf, Builtin.firstCells, sizeOf, typeInfo, hq, hmm, storeCells]
      | some ad =>
        have hl := run_loadCells_list (P := P) w ad [] (by simp)
        cases dp <;> simp [Builtin.copy_, run_underlying hu, Builtin.lenOf, Builtin.firstCells, sizeOf, typeInfo, hq, hmm] at hl ⊢ <;> simp [hl, storeCells]
    · obtain ⟨rfl, ad, rfl, hsrc⟩ := hpos (by omega)
      rw [if_neg h0]
      have hm : m = Nat.min sLen dLen := hm
      have hl := run_loadCells_list (P := P) w ad cs hsrc
      have hst := run_storeCells_at P g off t cs 0 cur.toArray w hg (by simpa using hfit) h1
      simp [Builtin.copy_, run_underlying hu, Builtin.lenOf, Builtin.firstCells, sizeOf, typeInfo, hq, hi, ← hm, ← hn, hl, hst, splice]
theorem wpList_copy_many {P : Program} {w : World} {ops : Array Oper} {rest : List Oper} {o : Oper} {a : Act} {Q : Exit → Act → World → Prop} (hgd : o.guard = none) (d s : Operand) (dT sT : TypeId)
    (ho : o.op = .call { callee := .builtin .copy, args := #[d, s], argTypes := #[dT, sT] }) (elem : TypeId) (k m : Nat) (hu : P.underlying dT = some (.slice elem)) (hsz : (P.info? elem).map (·.size) = some k)
    (dp sp : Option Addr) (dLen dCap sLen sCap : Nat) (hd : a.eval d = .slice dp dLen dCap) (hs : a.eval s = .slice sp sLen sCap) (hm : m = min sLen dLen)
    (g off : Nat) (cur : List Value) (t : TypeId) (hg : w.heap[g]? = some (.cells cur.toArray t (0, 0))) (cs : List Value) (hn : cs.length = m * k)
    (hpos : 0 < m → dp = some ⟨g, off, none⟩ ∧ ∃ ad, sp = some ad ∧ ∀ j v, cs[j]? = some v → w.cell? (ad.add j) = some v)
    (hfit : off + cs.length ≤ cur.length) (h1 : ∀ v ∈ cs, v.oneCell' = true) (B : Nat) (w0 : World) (hb : Below B w0 w) (hBg : B ≤ g)
    (h : ∀ w', Hid (w'.heap[g]? = some (.cells (splice cur off cs).toArray t (0, 0))) → Below B w0 w' → wpList P ops Q rest (a.put o.dst (goInt m)) w') :
    wpList P ops Q (o :: rest) a w := by
  refine wpList_plain hgd fun K hK => ?_
  have hrun := run_copy_many (P := P) w dT sT o.type elem k m dp sp dLen dCap sLen sCap hu hsz hm g off cur t hg cs hn hpos hfit h1
  unfold Oper.wp
  simp [execOp, ho, resolve, invoke, builtin, hd, hs, hrun, Result.andThen]
  refine hK _ _ (h _ ?_ ?_)
  · by_cases h0 : m = 0
    · have hcs : cs = [] := List.eq_nil_of_length_eq_zero (by rw [hn, h0]; simp)
      subst hcs
      rw [if_pos h0]
      show _ = _
      simpa [splice] using hg
    · rw [if_neg h0]
      exact setRow_heap w g _ _ t _ hg
  · by_cases h0 : m = 0
    · rw [if_pos h0]
      exact hb
    · rw [if_neg h0]
      exact below_setRow hb hBg _
end Go
