/- The document's twice. -/
import Derived.Test.YtlalnmefppbebaaSynT
namespace Go.Proofs.Ytlalnmefppbebaa
open Go.RowKit Go.Proofs.TreeMath
def twT (n : Nd) (k : F) (a : Bool) : Bool := if isPatB n.kind then dupB (varT n k) else a
def twR : F → Bool
  | .nil => false
  | .cons n k r => twT n k (twR k) || twR r
theorem twR_cons (n : Nd) (k r : F) : twR (.cons n k r) = (twT n k (twR k) || twR r) := rfl
theorem twF_two (f : F) : ∀ i, twF f (fun _ => 2) i = 0 := by
  induction f with
  | nil => intro i; rfl
  | cons n k r hk hr =>
    intro i
    have e : belowP 2 n.kind = fun _ => 2 := by funext j; simp [belowP]
    simp only [twF, e, hk, hr]
    simp [twE, or_]
theorem fault_pat {n : Nd} {hk p : Int} (h : faultE n hk p = 0) : isPatB n.kind = decide (p ≠ 0) := by
  unfold faultE at h
  split at h
  · rename_i hh
    simp only [Bool.and_eq_true] at hh
    have a := hh.1.1
    unfold allowsB at a
    by_cases h0 : p = 0
    · rw [if_pos h0] at a
      simp only [Bool.and_eq_true, decide_eq_true_eq] at a
      unfold isPatB
      simp [h0]
      omega
    · rw [if_neg h0] at a
      unfold isPatB
      rw [a]
      simp [h0]
  · cases h
theorem tw_math (f : F) : f.ok → ∀ q i, (∀ j, q j = 0 ∨ q j = 1) → chkF f q i = 0 → twF f q i = if twR f then 63 else 0 := by
  induction f with
  | nil => intros; rfl
  | cons n k r hk hr =>
    rintro ⟨h1, h2, h3⟩ q i hq hc
    have hc0 := hc
    simp only [chkF, or_eq_zero] at hc
    obtain ⟨c1, c2, c3⟩ := hc
    have hp := fault_pat c1
    simp only [twF]
    rw [hr h3 q (i + 1) hq c3]
    rcases hq i with h0 | h0
    · rw [h0] at hp c2 ⊢
      have : twT n k (twR k) = twR k := by unfold twT; rw [hp]; simp
      rw [show twR (.cons n k r) = (twR k || twR r) by rw [twR_cons, this], hk h2 (belowP 0 n.kind) 0 (fun j => by unfold belowP; rw [if_pos rfl]; split; exact .inr rfl; exact .inl rfl) c2]
      cases twR k <;> cases twR r <;> simp [twE, or_]
    · rw [h0] at hp c2 ⊢
      have e : belowP 1 n.kind = fun _ => 2 := by funext j; simp [belowP]
      have hv : varT n k = varsF (.cons n k .nil) := by
        have := varsR_F (.cons n k .nil) ⟨h1, h2, trivial⟩ (fun _ => q i) 0 (by simp only [chkF, or_eq_zero]; exact ⟨c1, by rw [h0]; exact c2, trivial⟩)
        rw [← this, varsR_cons]
        simp [varsR]
      have : twT n k (twR k) = dupB (varsF (.cons n k .nil)) := by unfold twT; rw [hp, ← hv]; simp
      rw [show twR (.cons n k r) = (dupB (varsF (.cons n k .nil)) || twR r) by rw [twR_cons, this], e, twF_two]
      unfold twE
      generalize dupB (varsF (.cons n k .nil)) = B
      cases B <;> cases twR r <;> simp [or_]
def TGood (W : World) (v : Value) (ns : List Nd) (n : Nd) (k : F) : Prop :=
  ∀ (pre post : List Nd) (w : World), ns = pre ++ (n :: (k.flat ++ post)) → Below W.heap.size W w → Calls Try.prog 35 #[v, .int .i64 (pre.length : Int)] w (RB (twT n k (twR k)) w)
def AllT (W : World) (v : Value) (ns : List Nd) : F → Prop
  | .nil => True
  | .cons n k r => TGood W v ns n k ∧ AllT W v ns r
theorem dup_at {v : List ByteArray} {i j : Nat} (hi : i < v.length) (hj : j < i) (h : v.getD i default = v.getD j default) : dupB v = true := by
  cases hd : dupB v with
  | true => rfl
  | false =>
    exfalso
    have hn := (dup_nodup v).1 hd
    rw [List.getD_eq_getElem?_getD, List.getD_eq_getElem?_getD, List.getElem?_eq_getElem hi, List.getElem?_eq_getElem (show j < v.length by omega)] at h
    have h' : v[i]? = v[j]? := by
      rw [List.getElem?_eq_getElem hi, List.getElem?_eq_getElem (show j < v.length by omega)]
      simpa using h
    have := (List.getElem?_inj hi hn).1 h'
    omega
theorem nodup_step {v : List ByteArray} {i : Nat} (hi : i < v.length) (h : (v.take i).Nodup) (h2 : ∀ j, j < i → ¬ v.getD i default = v.getD j default) : (v.take (i + 1)).Nodup := by
  rw [List.take_succ_eq_append_getElem hi, List.nodup_append]
  refine ⟨h, by simp, ?_⟩
  intro a ha b hb
  simp only [List.mem_singleton] at hb
  subst hb
  obtain ⟨j, hj, rfl⟩ := List.getElem_of_mem ha
  rw [List.length_take] at hj
  intro e
  apply h2 j (by omega)
  rw [List.getD_eq_getElem?_getD, List.getD_eq_getElem?_getD, List.getElem?_eq_getElem hi, List.getElem?_eq_getElem (show j < v.length by omega)]
  simp only [Option.getD_some]
  rw [← e, List.getElem_take]
set_option maxRecDepth 100000 in
set_option maxHeartbeats 8000000 in
/-- Of a pattern. -/
theorem twice_pat (W : World) (ns : List Nd) (bd off cap : Nat) (n : Nd) (k : F) (hN : ns.length ≤ 4000) (hat : NodesAt W (.slice (some ⟨bd, off, none⟩) ns.length cap) ns) (hb : bd < W.heap.size) (hc : Hid (CellsIn W bd off (nodeCells ns)))
    (hk1 : Hid (n.kids = k.cnt)) (hk2 : Hid k.ok) (hp : isPatB n.kind = true) (pre post : List Nd) (w : World) (hns : ns = pre ++ (n :: (k.flat ++ post))) (hbel : Below W.heap.size W w) :
    Calls Try.prog 35 #[.slice (some ⟨bd, off, none⟩) ns.length cap, .int .i64 (pre.length : Int)] w (RB (dupB (varT n k)) w) := by
  have hlen : ns.length = pre.length + (1 + k.sz + post.length) := by rw [hns]; simp [F.flat_length]; omega
  have hi : pre.length < ns.length := by omega
  have hnode : ns.getD pre.length default = n := by rw [hns]; simp [List.getD_eq_getElem?_getD]
  have hcw := hc.out.kept (hbel.block bd hb)
  obtain ⟨c0, -, -, -⟩ := hcw.node pre.length hi
  rw [hnode] at c0
  have VR := Lib.hid (vars_good W ns bd off cap n k hN hat hb hc (Lib.hid (vars_all W ns bd off cap hN hat hb hc.out k hk2.out)) hk1 hk2 pre post w hns hbel)
  have IP := Lib.hid (fun w => isPat_any n.kind w)
  rw [show (decide (21 ≤ n.kind) && decide (n.kind ≤ 24)) = true from hp] at IP
  obtain ⟨I, hI⟩ : ∃ I, I = pre.length := ⟨_, rfl⟩
  obtain ⟨M, hM⟩ : ∃ M, M = ns.length := ⟨_, rfl⟩
  rw [← hI, ← hM]
  rw [← hI] at c0 hi VR
  rw [← hM] at hi hN VR
  have LV : Hid ((varT n k).length ≤ 4000) := Lib.hid (by
    have h := varsR_len (.cons n k .nil)
    rw [varsR_cons] at h
    simp [varsR, F.sz] at h
    omega)
  obtain ⟨vs, hvs⟩ : ∃ vs, vs = varT n k := ⟨_, rfl⟩
  rw [← hvs] at VR LV ⊢
  obtain ⟨A, hA⟩ : ∃ A, A = vs.length := ⟨_, rfl⟩
  have hA3 : A ≤ 4000 := by rw [hA]; exact LV.out
  have HAL := Lib.hid hA
  obtain ⟨k0, t0, m0, d0⟩ := n
  simp only at c0 IP
  obtain ⟨R, hR⟩ : ∃ R, R = dupB vs := ⟨_, rfl⟩
  rw [← hR]
  have HR := Lib.hid hR
  clear hI hM hns hlen hnode hat hbel hcw hvs hA hR hp hk1 hk2
  go_enter Try.func35, Try.ntmps35
  go_wp2_with (first
    | (go_at_call 27; refine (IP.out _).mono ?_; rintro e w1 ⟨rfl, rfl⟩)
    | (go_at_call 22; refine VR.out.mono ?_; rintro e w2 ⟨v2, rfl, r2, b2⟩; obtain ⟨_, ap, ac, rfl, _, _, ha⟩ := r2.at; have HA := Lib.hid ha; have B2 := Lib.hid b2; clear r2 b2 ha; rw [← HAL.out] at HA ⊢)
    | fail)
  go_loopw [6] (fun s6 wr => ∃ j : Nat, j ≤ A ∧ s6 = .int .i64 (j : Int) ∧ (vs.take j).Nodup ∧ Below w2.heap.size w2 wr) (fun s6 _ => A - (intOf s6).toNat)
  case atStart => exact ⟨0, Nat.zero_le _, rfl, by simp, Below.refl _ _⟩
  case round =>
    obtain ⟨wo, hwo⟩ : ∃ wo : World, wo = wr := ⟨_, rfl⟩
    subst hwo
    obtain ⟨j, hj, rfl, hnd, hbl⟩ := hrel
    have BL := Lib.hid hbl
    have ND := Lib.hid hnd
    clear hbl hnd
    by_cases h1 : j < A
    · obtain ⟨b, o, rfl, hb2, hcs⟩ := HA.out (by omega)
      have HCS := Lib.hid (And.intro hb2 hcs)
      have hjl : j < vs.length := by rw [← HAL.out]; exact h1
      have HJL := Lib.hid hjl
      obtain ⟨t, ht⟩ : ∃ t, t = vs.getD j default := ⟨_, rfl⟩
      have HT := Lib.hid ht
      have hltz : ((j : Int) < (A : Int)) := by omega
      clear hcs hjl ht
      go_wp2_with fail
      go_loopw [7] (fun s7 wr => ∃ q : Nat, q ≤ j ∧ s7 = .int .i64 (q : Int) ∧ (∀ x, x < q → ¬ vs.getD j default = vs.getD x default) ∧ Below w2.heap.size w2 wr) (fun s7 _ => j - (intOf s7).toNat)
      case atStart => exact ⟨0, Nat.zero_le _, rfl, fun x h => absurd h (Nat.not_lt_zero _), BL.out⟩
      case round =>
        obtain ⟨wi, hwi⟩ : ∃ wi : World, wi = wr := ⟨_, rfl⟩
        subst hwi
        obtain ⟨q, hq, rfl, hno, hbi⟩ := hrel
        have BI := Lib.hid hbi
        have NO := Lib.hid hno
        clear hbi hno
        by_cases hqj : q < j
        · have cq := (HCS.out.2.kept (BI.out.block b HCS.out.1)).str q (by have := HJL.out; omega)
          have cj := (HCS.out.2.kept (BI.out.block b HCS.out.1)).str j HJL.out
          rw [← HT.out] at cj
          have hqz : ((q : Int) < (j : Int)) := by omega
          have hbw : b < wi.heap.size := Nat.lt_of_lt_of_le HCS.out.1 BI.out.size
          by_cases heq : t = vs.getD q default
          · rw [← heq] at cq
            have hres : R = true := by rw [HR.out]; exact dup_at HJL.out hqj (by rw [← HT.out]; exact heq)
            subst hres
            clear heq
            go_wp2
            go_quiet (fail)
            go_wp2
            go_ret
            refine ⟨rfl, B2.out.trans (Below.mono ?bel B2.out.size)⟩
            case bel => exact ⟨BI.out.os, BI.out.tape, BI.out.output, BI.out.size, BI.out.block⟩
          · have NE := Lib.hid heq
            obtain ⟨u, hu⟩ : ∃ u, u = vs.getD q default := ⟨_, rfl⟩
            rw [← hu] at cq heq
            have g1 := text_ne heq
            have g1' := text_ne (fun e => heq e.symm)
            have g2 : (t.toList == u.toList) = false := by simpa using g1
            have g3 : (u.toList == t.toList) = false := by simpa using g1'
            clear hu heq
            go_wp2
            go_quiet (fail)
            go_wp2
            go_roundw
            case rel => exact ⟨q + 1, hqj, by go_num, fun x hx => by
              rcases Nat.lt_or_ge x q with h | h
              · exact NO.out x h
              · rw [show x = q by omega, ← HT.out]; exact NE.out, ⟨BI.out.os, BI.out.tape, BI.out.output, BI.out.size, BI.out.block⟩⟩
            case measure => simp [intOf]; omega
        · obtain rfl : q = j := by omega
          go_wp2
          refine ⟨⟨q + 1, h1, by go_num, nodup_step HJL.out ND.out NO.out, BI.out⟩, by simp [intOf]; omega⟩
    · obtain rfl : j = A := by omega
      have hfull : vs.take j = vs := List.take_of_length_le (by rw [← HAL.out]; exact Nat.le_refl _)
      have hres : R = false := by
        rw [HR.out]
        have := ND.out
        rw [hfull] at this
        exact (dup_nodup _).2 this
      subst hres
      clear hfull
      go_wp2
      go_ret
      exact ⟨rfl, B2.out.trans (BL.out.mono B2.out.size)⟩
end Go.Proofs.Ytlalnmefppbebaa
