/- What the walks of the laws share. -/
import Derived.Test.YtkmgapieoedelaaFixX
namespace Go.Proofs.FixMath
theorem climb_ok {R : Fx → Bool} {l : List Fx} {ss : List ByteArray} (h : (climbL R l ss).2 = 0) : ∃ gs, checkL R l = 0 ∧ ss.length ≤ 400 ∧ fixesL l ss = some gs ∧ bindL gs 0 = some (climbL R l ss).1 := by
  unfold climbL at h ⊢
  by_cases h1 : checkL R l = 0
  · rw [if_neg (by simp [h1])] at h ⊢
    by_cases h2 : 400 < ss.length
    · rw [if_pos h2] at h; simp at h
    · rw [if_neg h2] at h ⊢
      cases h3 : fixesL l ss with
      | none => rw [h3] at h; simp [rowedL] at h
      | some gs =>
        rw [h3] at h
        simp only [rowedL] at h ⊢
        cases h4 : bindL gs 0 with
        | none => rw [h4] at h; simp [boundL] at h
        | some c => exact ⟨gs, h1, by omega, rfl, by simp [boundL, h4]⟩
  · rw [if_pos h1] at h; exact absurd h h1
theorem climb_bad {R : Fx → Bool} {l : List Fx} {ss : List ByteArray} (h : ¬ (climbL R l ss).2 = 0) : (climbL R l ss).1 = [] := by
  unfold climbL at h ⊢
  by_cases h1 : checkL R l = 0
  · rw [if_neg (by simp [h1])] at h ⊢
    by_cases h2 : 400 < ss.length
    · rw [if_pos h2]
    · rw [if_neg h2] at h ⊢
      cases h3 : fixesL l ss with
      | none => rfl
      | some gs =>
        rw [h3] at h
        simp only [rowedL] at h ⊢
        cases h4 : bindL gs 0 with
        | none => rfl
        | some c => rw [h4] at h; simp [boundL] at h
  · rw [if_pos h1]
theorem climb_len (R : Fx → Bool) (l : List Fx) (ss : List ByteArray) : (climbL R l ss).1.length ≤ 2 * ss.length + 1 := by
  by_cases h : (climbL R l ss).2 = 0
  · obtain ⟨gs, _, _, h3, h4⟩ := climb_ok h
    rw [bindL_len h4, (fixes_mem h3).1]
    omega
  · rw [climb_bad h]; simp
end Go.Proofs.FixMath
namespace Go.Proofs.Ytkmgapieoedelaa
open Go.Shelf Go.RowKit Go.Lib Go.Sort Go.Proofs.FixMath

theorem infoStr : ∃ i, Try.prog.info? 9 = some i ∧ i.zero = some (.string ByteArray.empty) ∧ i.size = 1 ∧ i.bytes = 16 := info_of' (by kernel_rfl)
theorem strCells_one (xs : List ByteArray) : ∀ u ∈ strCells xs, u.oneCell' = true := by
  intro u hu
  obtain ⟨n, _, rfl⟩ := List.mem_map.1 hu
  rfl
theorem strs_src {w : World} {p : Option Addr} {n k : Nat} {x : List ByteArray} (h : StrsAt w (.slice p n k) x) : x.length = n ∧ (n ≠ 0 → ∃ ad, p = some ad ∧ ∀ j u, (strCells x)[j]? = some u → w.cell? (ad.add j) = some u) := by
  obtain ⟨_, p', k', hv, _, _, hh⟩ := h
  simp only [Value.slice.injEq] at hv
  obtain ⟨rfl, rfl, rfl⟩ := hv
  refine ⟨rfl, fun h0 => ?_⟩
  obtain ⟨b, off, rfl, _, hc⟩ := hh h0
  exact ⟨_, rfl, hc.at⟩
/-- An own copy, in a world. -/
theorem ints_own {base : Nat} {w' : World} {p' : Option Addr} {n c' : Nat} {l : List Int} (hl : l.length = n) (h : w'.ownsRow base 3 1 (.slice p' (0 + n) c') (0 + n) ([] ++ intCells l)) : IntsAt w' (.slice p' n c') l := by
  rw [List.nil_append, Nat.zero_add] at h
  have := SliceAt.of_owns h
  unfold IntsAt
  rw [hl]
  exact this
theorem strs_own {base : Nat} {w' : World} {p' : Option Addr} {n c' : Nat} {l : List ByteArray} (hl : l.length = n) (h : w'.ownsRow base 9 1 (.slice p' (0 + n) c') (0 + n) ([] ++ strCells l)) : StrsAt w' (.slice p' n c') l := by
  rw [List.nil_append, Nat.zero_add] at h
  have := SliceAt.of_owns h
  unfold StrsAt
  rw [hl]
  exact this
theorem own_below {w w' : World} {e : TypeId} {cs : Array Value} (h : (w.alloc (.cells cs e)).grownBy w' (some w.heap.size)) : Below w.heap.size w w' :=
  ((Below.refl _ _).alloc (Nat.le_refl _) _).grown h (by simp) (fun k hk => by simp at hk; omega)
theorem BRes.at {o : Option (List Int)} {W w' : World} {e : Ending} (h : BRes o W e w') : ∃ p k, e = .returned (.tuple #[.slice p (o.getD []).length k, .bool o.isSome]) ∧ Below W.heap.size W w' ∧ IntsAt w' (.slice p (o.getD []).length k) (o.getD []) := by
  obtain ⟨h1, h2⟩ := h
  cases o with
  | none => exact ⟨none, 0, h2, h1, IntsAt.nil _⟩
  | some c =>
    obtain ⟨v, he, hi⟩ := h2
    obtain ⟨p, k, rfl⟩ := ints_form hi
    exact ⟨p, k, he, h1, hi⟩
end Go.Proofs.Ytkmgapieoedelaa
