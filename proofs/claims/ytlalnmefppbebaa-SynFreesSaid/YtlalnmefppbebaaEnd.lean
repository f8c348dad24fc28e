/- Where a tree ends: tree.End, tree.Whole. -/
import Derived.Test.YtlalnmefppbebaaSearch
namespace Go.Proofs.Ytlalnmefppbebaa
open Go.RowKit Go.Proofs.TreeMath

theorem end_found (i o : Int) (w : World) (h : o = 0) : Calls Try.prog 71 #[.int .i64 i, .int .i64 o] w fun e w' => e = .returned (.bool true) ∧ w = w' := by
  subst h
  go_enter Try.func71, Try.ntmps71
  go_wp2
  go_ret
  exact ⟨rfl, rfl⟩
theorem end_not (i o : Int) (w : World) (h : (o == 0) = false) : Calls Try.prog 71 #[.int .i64 i, .int .i64 o] w fun e w' => e = .returned (.bool false) ∧ w = w' := by
  go_enter Try.func71, Try.ntmps71
  go_wp2
  go_ret
  exact ⟨rfl, rfl⟩
theorem search_end (b off n c i : Nat) (ks : List Int) (w : World) (hi : i < n) (hn : n ≤ 1000000) (hl : ks.length = n) (hc : ∀ m, m < n → w.cell? ⟨b, off + m * 4 + 3, none⟩ = some (.int .i64 (ks.getD m 0))) :
    Calls Try.prog 46 #[.slice (some ⟨b, off, none⟩) n c, .int .i64 i, .func (.func 71) #[] #[]] w fun e w' => e = .returned (.int .i64 (fin ks i 1)) ∧ w = w' := by
  refine (search_any b off n c i ks w hi hn hl 71 #[] call30 (fun _ _ w' => w = w') (fun _ _ w' => w = w') (fun w' => w = w') (fun w' => w = w') rfl ?_ ?_ ?_ ?_ ?_).mono ?_
  · rintro m o w' rfl hm
    exact hc m hm
  · rintro m w' _ rfl
    exact end_found m 0 w rfl
  · rintro m o oi w' _ _ ho rfl
    exact end_not m oi w (by simp; omega)
  · rintro m o w' _ rfl _
    rfl
  · rintro m o w' rfl
    rfl
  · rintro e w' ⟨y, rfl, rfl, ⟨_, h⟩ | ⟨_, h⟩⟩ <;> exact ⟨rfl, h⟩
/-- The search where it has nothing to search. -/
theorem search_out (p : Option Addr) (n c : Nat) (i : Int) (v : Value) (w : World) (h : i < 0 ∨ (n : Int) ≤ i) :
    Calls Try.prog 46 #[.slice p n c, .int .i64 i, v] w fun e w' => e = .returned (.int .i64 (-1)) ∧ w = w' := by
  have key : ∀ b : Bool, decide (i < 0) = b → (b = false → decide ((n : Int) ≤ i) = true) → Calls Try.prog 46 #[.slice p n c, .int .i64 i, v] w fun e w' => e = .returned (.int .i64 (-1)) ∧ w = w' := by
    intro b hb hb2
    cases b
    · have h1 := hb2 rfl
      go_enter Try.func46, Try.ntmps46
      go_wp2
      go_step3
      go_wp2
      rw [Exit.noGoto_ret]
      go_ret
      exact ⟨rfl, rfl⟩
    · go_enter Try.func46, Try.ntmps46
      go_wp2
      go_step3
      go_wp2
      rw [Exit.noGoto_ret]
      go_ret
      exact ⟨rfl, rfl⟩
  exact key _ rfl fun hb => by simp at hb ⊢; omega
/-- Where the tree at an index ends. -/
theorem end_any (v : Value) (ns : List Nd) (i : Int) (w : World) (h : NodesAt w v ns) (hn : ns.length ≤ 1000000) :
    Calls Try.prog 43 #[v, .int .i64 i] w fun e w' => e = .returned (.int .i64 (endI (kk ns) i)) ∧ w = w' := by
  obtain ⟨_, p, c, rfl, _, _, hp⟩ := h
  by_cases ho : i < 0 ∨ (ns.length : Int) ≤ i
  · have he := endI_out (kk ns) i (by rw [length_kk]; exact ho)
    rw [he]
    clear hp
    go_enter Try.func43, Try.ntmps43
    go_wp2_with ((go_at_call 46; refine (search_out _ _ _ _ _ _ ho).mono ?_; rintro e w' ⟨rfl, rfl⟩))
    go_ret
    exact ⟨rfl, rfl⟩
  · obtain ⟨m, rfl⟩ : ∃ m : Nat, i = m := ⟨i.toNat, by omega⟩
    obtain ⟨b, off, rfl, _, hc⟩ := hp (by omega)
    rw [endI_nat]
    have HC := Lib.hid hc
    clear hc hp
    go_enter Try.func43, Try.ntmps43
    go_wp2_with ((go_at_call 46; refine (search_end b off ns.length c m (kk ns) _ (by omega) hn (length_kk ns) (fun j hj => HC.out.kids j hj)).mono ?_; rintro e w' ⟨rfl, rfl⟩))
    go_ret
    exact ⟨rfl, rfl⟩
theorem whole_any (v : Value) (ns : List Nd) (w : World) (h : NodesAt w v ns) (hn : ns.length ≤ 1000000) :
    Calls Try.prog 45 #[v] w fun e w' => e = .returned (.bool (wholeB (kk ns))) ∧ w = w' := by
  obtain ⟨p, c, hv⟩ : ∃ p c, v = .slice p ns.length c := by obtain ⟨_, p, c, hv, _⟩ := h; exact ⟨p, c, hv⟩
  subst hv
  go_enter Try.func45, Try.ntmps45
  go_wp2_with ((go_at_call 43; refine (end_any _ ns _ _ h hn).mono ?_; rintro e w' ⟨rfl, rfl⟩))
  go_ret
  exact ⟨ret_bool (by simp [wholeB, length_kk]), rfl⟩
end Go.Proofs.Ytlalnmefppbebaa
