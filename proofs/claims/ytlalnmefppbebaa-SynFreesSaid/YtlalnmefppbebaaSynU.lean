/- The laws' mathematics: one tree in the place of another one. -/
import Derived.Test.YtlalnmefppbebaaSynP
namespace Go.Proofs.Ytlalnmefppbebaa
open Go.RowKit Go.Proofs.TreeMath
def patB (k : Int) : Bool := decide (21 ≤ k) && decide (k ≤ 24)
theorem place_zero {n : Nd} {hk p : Int} (h : faultE n hk p = 0) (hp : patB n.kind = false) : p = 0 := by
  rcases Decidable.em (p = 0) with h0 | h0
  · exact h0
  · exfalso
    unfold faultE at h
    split at h
    · rename_i hh
      simp only [Bool.and_eq_true] at hh
      have a := hh.1.1
      unfold allowsB at a
      rw [if_neg h0] at a
      unfold patB at hp
      rw [a] at hp
      cases hp
    · cases h
theorem fault_kids {n : Nd} {hk p : Int} (h : faultE n hk p = 0) : kidsB n.kind n.kids = true := by
  unfold faultE at h
  split at h
  · rename_i hh
    simp only [Bool.and_eq_true] at hh
    exact hh.2
  · cases h
theorem fault_eight {n : Nd} {a b p : Int} (h : faultE n a p = 0) : faultE n b p = if n.kind = 8 ∧ b ≠ 5 then 61 else 0 := by
  unfold faultE at h ⊢
  split at h
  · rename_i hh
    rw [if_pos hh]
    split at h
    · cases h
    · rename_i h8
      rw [h]
  · cases h
/-- The kind of the node ahead of a place. -/
def prevK (f : F) (a : Nat) : Int := if a = 0 then 0 else (f.flat.getD (a - 1) default).kind
/-- The last node of a forest has no kids, and so is no ExpRec. -/
theorem last_not (f : F) : f.ok → ∀ q i, chkF f q i = 0 → 0 < f.sz → (f.flat.getD (f.sz - 1) default).kind ≠ 8 := by
  induction f with
  | nil => intro _ q i _ h; simp [F.sz] at h
  | cons n k r hk hr =>
    rintro ⟨h1, h2, h3⟩ q i hc _
    simp only [chkF, or_eq_zero] at hc
    obtain ⟨c1, c2, c3⟩ := hc
    by_cases hr0 : r.sz = 0
    · by_cases hk0 : k.sz = 0
      · have e : (F.cons n k r).flat.getD ((F.cons n k r).sz - 1) default = n := by
          simp only [F.sz, hk0, hr0]
          simp [F.flat, List.getD_eq_getElem?_getD]
        rw [e]
        intro h8
        have := fault_kids c1
        rw [h8, h1, show k.cnt = 0 by have := F.cnt_le k; omega] at this
        simp [kidsB] at this
      · have e : (F.cons n k r).flat.getD ((F.cons n k r).sz - 1) default = k.flat.getD (k.sz - 1) default := by
          have hrf : r.flat = [] := List.eq_nil_of_length_eq_zero (by rw [F.flat_length]; exact hr0)
          simp only [F.flat, hrf, List.append_nil, F.sz, hr0]
          rw [show 1 + k.sz + 0 - 1 = (k.sz - 1) + 1 by omega]
          simp [List.getD_eq_getElem?_getD]
        rw [e]
        exact hk h2 _ _ c2 (by omega)
    · have e : (F.cons n k r).flat.getD ((F.cons n k r).sz - 1) default = r.flat.getD (r.sz - 1) default := by
        simp only [F.flat, F.sz]
        rw [show 1 + k.sz + r.sz - 1 = (k.flat.length + (r.sz - 1)) + 1 by rw [F.flat_length]; omega]
        simp [List.getD_eq_getElem?_getD, List.getElem?_append_right]
      rw [e]
      exact hr h3 _ _ c3 (by omega)
/-- A tree that is right at an expression's place, in the place of one that is there. -/
theorem put_at (f : F) : f.ok → ∀ (q : Nat → Int) (i a : Nat), a < f.sz → chkF f q i = 0 → twF f q i = 0 → patB (f.flat.getD a default).kind = false →
    ∃ (n : Nd) (k : F) (pre post : List Nd), f.flat = pre ++ (n :: (k.flat ++ post)) ∧ pre.length = a ∧ n.kids = k.cnt ∧ k.ok ∧ (∃ j, q j = 0) ∧
      ∀ (m : Nd) (kk : F), m.kids = kk.cnt → kk.ok → faultE m (headK kk) 0 = 0 → chkF kk (belowP 0 m.kind) 0 = 0 → twF kk (belowP 0 m.kind) 0 = 0 →
        ∃ f' : F, f'.ok ∧ f'.cnt = f.cnt ∧ f'.flat = pre ++ (m :: (kk.flat ++ post)) ∧ deepF f' ≤ deepF f + (1 + deepF kk) ∧ headK f' = (if a = 0 then m.kind else headK f) ∧ twF f' q i = 0 ∧ chkF f' q i = if prevK f a = 8 ∧ m.kind ≠ 5 then 61 else 0 := by
  induction f with
  | nil => intro _ q i a h; simp [F.sz] at h
  | cons n k r hk hr =>
    rintro ⟨h1, h2, h3⟩ q i a ha hc ht hp
    have hc0 := hc
    simp only [chkF, or_eq_zero] at hc
    simp only [twF, or_eq_zero] at ht
    obtain ⟨c1, c2, c3⟩ := hc
    obtain ⟨t1, t2, t3⟩ := ht
    simp only [F.sz] at ha
    by_cases a0 : a = 0
    · subst a0
      have hq : q i = 0 := place_zero c1 (by simpa [F.flat, List.getD_eq_getElem?_getD] using hp)
      refine ⟨n, k, [], r.flat, by simp [F.flat], rfl, h1, h2, ⟨i, hq⟩, fun m kk m1 m2 m3 m4 m5 => ?_⟩
      refine ⟨.cons m kk r, ⟨m1, m2, h3⟩, rfl, by simp [F.flat], by simp only [deepF]; omega, by simp [headK], ?_, ?_⟩
      · simp only [twF, hq, m5, t3]
        simp [twE, or_]
      · simp only [chkF, hq, m3, m4, c3]
        simp [prevK, or_]
    · obtain ⟨b, rfl⟩ : ∃ b, a = b + 1 := ⟨a - 1, by omega⟩
      by_cases ak : b < k.sz
      · have hp' : patB (k.flat.getD b default).kind = false := by
          have e : (F.cons n k r).flat.getD (b + 1) default = k.flat.getD b default := by
            simp only [F.flat, List.getD_eq_getElem?_getD, List.getElem?_cons_succ]
            rw [List.getElem?_append_left (by rw [F.flat_length]; exact ak)]
          rwa [e] at hp
        obtain ⟨n', k', pre, post, e1, e2, e3, e4, ⟨j, hj⟩, e5⟩ := hk h2 (belowP (q i) n.kind) 0 b ak c2 t2 hp'
        have hq : q i = 0 := by
          by_cases h0 : q i = 0
          · exact h0
          · simp [belowP, h0] at hj
        refine ⟨n', k', n :: pre, post ++ r.flat, by simp [F.flat, e1], by simp [e2], e3, e4, ⟨i, hq⟩, fun m kk m1 m2 m3 m4 m5 => ?_⟩
        obtain ⟨f', g1, g2, g3, g4, g5, g6, g7⟩ := e5 m kk m1 m2 m3 m4 m5
        refine ⟨.cons n f' r, ⟨by rw [h1, g2], g1, h3⟩, rfl, by simp [F.flat, g3], by simp only [deepF]; omega, by simp [headK], ?_, ?_⟩
        · simp only [twF, g6, t3]
          rw [hq]
          simp [twE, or_]
        · have hfe := fault_eight (b := headK f') c1
          have hpk : prevK (.cons n k r) (b + 1) = if b = 0 then n.kind else prevK k b := by
            unfold prevK
            rw [if_neg (by omega), Nat.add_sub_cancel]
            by_cases hb : b = 0
            · subst hb; simp [F.flat, List.getD_eq_getElem?_getD]
            · rw [if_neg hb, if_neg hb]
              obtain ⟨c, rfl⟩ : ∃ c, b = c + 1 := ⟨b - 1, by omega⟩
              simp only [F.flat, List.getD_eq_getElem?_getD, List.getElem?_cons_succ, Nat.add_sub_cancel]
              rw [List.getElem?_append_left (by rw [F.flat_length]; omega)]
          rw [hpk]
          simp only [chkF, hfe, g7, c3]
          by_cases hb : b = 0
          · subst hb
            rw [g5, if_pos rfl]
            simp [prevK, or_zero]
          · rw [g5, if_neg hb, if_neg hb]
            have h8 : ¬ (n.kind = 8 ∧ headK k ≠ 5) := by
              intro h
              have := fault_eight (b := headK k) c1
              rw [c1, if_pos h] at this
              cases this
            rw [if_neg h8]
            simp [or_zero, zero_or]
      · have hp' : patB (r.flat.getD (b - k.sz) default).kind = false := by
          have e : (F.cons n k r).flat.getD (b + 1) default = r.flat.getD (b - k.sz) default := by
            simp only [F.flat, List.getD_eq_getElem?_getD, List.getElem?_cons_succ]
            rw [List.getElem?_append_right (by rw [F.flat_length]; omega), F.flat_length]
          rwa [e] at hp
        obtain ⟨n', k', pre, post, e1, e2, e3, e4, hj, e5⟩ := hr h3 q (i + 1) (b - k.sz) (by omega) c3 t3 hp'
        refine ⟨n', k', n :: (k.flat ++ pre), post, by simp [F.flat, e1], by simp [e2, F.flat_length]; omega, e3, e4, hj, fun m kk m1 m2 m3 m4 m5 => ?_⟩
        obtain ⟨f', g1, g2, g3, g4, g5, g6, g7⟩ := e5 m kk m1 m2 m3 m4 m5
        refine ⟨.cons n k f', ⟨h1, h2, g1⟩, by simp [F.cnt, g2], by simp [F.flat, g3], by simp only [deepF]; omega, by simp [headK], ?_, ?_⟩
        · simp only [twF, t1, t2, g6]
          rfl
        · have hpk : prevK (.cons n k r) (b + 1) = 8 ↔ prevK r (b - k.sz) = 8 := by
            unfold prevK
            rw [if_neg (by omega), Nat.add_sub_cancel]
            by_cases hb : b - k.sz = 0
            · rw [if_pos hb]
              have hbk : b = k.sz := by omega
              constructor
              · intro h8
                exfalso
                have hl := last_not (.cons n k .nil) ⟨h1, h2, trivial⟩ q i (by simp only [chkF, c1, c2]; rfl) (by simp only [F.sz]; omega)
                apply hl
                have e : (F.cons n k .nil).flat.getD ((F.cons n k .nil).sz - 1) default = (F.cons n k r).flat.getD b default := by
                  simp only [F.sz, F.flat, hbk]
                  rw [show 1 + k.sz + 0 - 1 = k.sz by omega]
                  simp only [List.getD_eq_getElem?_getD, List.append_nil]
                  congr 1
                  rw [← List.cons_append, List.getElem?_append_left (by simp [F.flat_length])]
                rw [e]
                exact h8
              · intro h; cases h
            · rw [if_neg hb]
              have e : (F.cons n k r).flat.getD b default = r.flat.getD (b - k.sz - 1) default := by
                obtain ⟨c, rfl⟩ : ∃ c, b = c + 1 := ⟨b - 1, by omega⟩
                simp only [F.flat, List.getD_eq_getElem?_getD, List.getElem?_cons_succ]
                rw [List.getElem?_append_right (by rw [F.flat_length]; omega), F.flat_length]
                congr 2
                omega
              rw [e]
          simp only [chkF, c1, c2, g7, zero_or, hpk]
end Go.Proofs.Ytlalnmefppbebaa
