/- The indexes of the kids: tree.Kids. -/
import Derived.Test.YtdddfdblcfngbaaEnd
import Derived.Maps.AppendAt
namespace Go.Proofs.Ytdddfdblcfngbaa
open Go.RowKit Go.Proofs.TreeMath
theorem kids_a (i o t : Int) (A B C : Nat) (w : World) (hA : w.cell? ⟨A, 0, none⟩ = some (.int .i64 t)) (h : decide (t < i) = false) (ho : (o == 0) = false) :
    Calls Try.prog 31 #[.int .i64 i, .int .i64 o, .pointer (some ⟨A, 0, none⟩), .pointer (some ⟨B, 0, none⟩), .pointer (some ⟨C, 0, none⟩)] w fun e w' => e = .returned (.bool false) ∧ w.drew = w' := by
  go_enter Try.func31, Try.ntmps31
  go_wp2
  go_region
  go_wp2
  go_ret
  exact ⟨rfl, rfl⟩
theorem kids_b (i t : Int) (A B C : Nat) (w : World) (hA : w.cell? ⟨A, 0, none⟩ = some (.int .i64 t)) (h : decide (t < i) = true) :
    Calls Try.prog 31 #[.int .i64 i, .int .i64 0, .pointer (some ⟨A, 0, none⟩), .pointer (some ⟨B, 0, none⟩), .pointer (some ⟨C, 0, none⟩)] w fun e w' => e = .returned (.bool true) ∧ w.drew = w' := by
  go_enter Try.func31, Try.ntmps31
  go_wp2
  go_region
  go_wp2
  go_ret
  exact ⟨rfl, rfl⟩
theorem kids_c (i o k : Int) (t : Nat) (A B C b off n c j cap : Nat) (p : Option Addr) (w : World) (hA : w.cell? ⟨A, 0, none⟩ = some (.int .i64 t)) (hB : w.cell? ⟨B, 0, none⟩ = some (.slice (some ⟨b, off, none⟩) n c))
    (hC : w.cell? ⟨C, 0, none⟩ = some (.slice p j cap)) (hk : w.cell? ⟨b, off + t * 4 + 3, none⟩ = some (.int .i64 k)) (h : decide ((t : Int) < i) = true) (h1 : decide (0 < o) = true) (ho : (o == 0) = false) (hj : j ≤ 1000000) (hk0 : 0 ≤ k) (hk1 : k ≤ 1000000) (ht : t < n)
    (hne : (o == k - j) = false) :
    Calls Try.prog 31 #[.int .i64 i, .int .i64 o, .pointer (some ⟨A, 0, none⟩), .pointer (some ⟨B, 0, none⟩), .pointer (some ⟨C, 0, none⟩)] w fun e w' => e = .returned (.bool false) ∧ w.drew = w' := by
  go_enter Try.func31, Try.ntmps31
  go_wp2
  go_region
  go_wp2
  go_ret
  exact ⟨rfl, rfl⟩
theorem info_of {P : Program} {t : TypeId} {z : Value} {s b : Nat} (h : (P.info? t).map (fun i => (i.zero, i.size, i.bytes)) = some (some z, s, b)) : ∃ i, P.info? t = some i ∧ i.zero = some z ∧ i.size = s ∧ i.bytes = b := by
  cases hq : P.info? t with
  | none => rw [hq] at h; simp at h
  | some i => rw [hq] at h; simp at h; exact ⟨i, rfl, h.1, h.2.1, h.2.2⟩
theorem infoInt : ∃ i, Try.prog.info? 3 = some i ∧ i.zero = some (.int .i64 0) ∧ i.size = 1 ∧ i.bytes = 8 := info_of (by kernel_rfl)
/-- What a function that appends to a captured slice leaves. -/
def Grew (C base lo j : Nat) (xs : List Value) (w : World) (b : Bool) (e : Ending) (w' : World) : Prop :=
  e = .returned (.bool b) ∧ ∃ p' cap', w'.heap[C]? = some (.cells #[.slice p' j cap'] 31 (0, 0)) ∧ w'.ownsRow base 3 1 (.slice p' j cap') j xs ∧ Below lo w w' ∧ ∀ k, k < base → k ≠ C → w'.heap[k]? = w.heap[k]?
theorem owns_slice {w : World} {base : Nat} {e : TypeId} {size n : Nat} {v : Value} {xs : List Value} (h : w.ownsRow base e size v n xs) (hn : 0 < n) : ∃ g cap, v = .slice (some ⟨g, 0, none⟩) n cap ∧ base ≤ g ∧ g < w.heap.size := by
  rcases h.2 with ⟨_, h0⟩ | ⟨g, cap, cur, rfl, hb, hg, _⟩
  · omega
  · exact ⟨g, cap, rfl, hb, (Array.getElem?_eq_some_iff.1 hg).1⟩
set_option maxHeartbeats 1000000 in
theorem kids_d (i o k : Int) (t : Nat) (A B C b off n c j cap : Nat) (p : Option Addr) (w : World) (hA : w.cell? ⟨A, 0, none⟩ = some (.int .i64 t)) (hB : w.cell? ⟨B, 0, none⟩ = some (.slice (some ⟨b, off, none⟩) n c))
    (hC : w.heap[C]? = some (.cells #[.slice p j cap] 31 (0, 0))) (hk : w.cell? ⟨b, off + t * 4 + 3, none⟩ = some (.int .i64 k)) (h : decide ((t : Int) < i) = true) (h1 : decide (0 < o) = true) (ho : (o == 0) = false) (hj : j ≤ 1000000) (hk0 : 0 ≤ k) (hk1 : k ≤ 1000000) (ht : t < n)
    (heq : (o == k - j) = true) (base lo : Nat) (xs : List Value) (hown : w.ownsRow base 3 1 (.slice p j cap) j xs) (hCb : C < base) (hbw : base ≤ w.heap.size) (hlo : lo ≤ C) :
    Calls Try.prog 31 #[.int .i64 i, .int .i64 o, .pointer (some ⟨A, 0, none⟩), .pointer (some ⟨B, 0, none⟩), .pointer (some ⟨C, 0, none⟩)] w (Grew C base lo (j + 1) (xs ++ [.int .i64 i]) w false) := by
  have hC2 : w.cell? ⟨C, 0, none⟩ = some (.slice p j cap) := by simp [World.cell?, hC]
  obtain ⟨i0, hi, hz0, hz1, hz2⟩ := infoInt
  have HI := Lib.hid (And.intro hi (And.intro hz0 (And.intro hz1 hz2)))
  have HC := Lib.hid hC
  have HO := Lib.hid hown
  clear hC hown hi hz0 hz1 hz2
  go_enter Try.func31, Try.ntmps31
  go_wp2
  go_region
  go_wp2_with ((at_builtin; refine wpList_append_own _ rfl _ _ 31 rfl base 3 i0 (.int .i64 0) 1 8 Try.underlying31 HI.out.1 HI.out.2.1 HI.out.2.2.1 HI.out.2.2.2 rfl (by decide) _ _ _ rfl (HO.out.alloc _) ⟨w.heap.size, 0, none⟩ 1 1 [.int .i64 i] rfl rfl (cell_one_new _ _ _) (fun x hx => by simp at hx; subst hx; rfl) (by unfold maxLen; omega) (by omega) (by simp; omega) ?_; intro v' w3 hown' hgrow hnil; obtain ⟨g3, c3, hv3, hg3, hg4⟩ := owns_slice hown' (by omega); subst hv3; have hC3 : w3.heap[C]? = some (.cells #[.slice p j cap] 31 (0, 0)) := by {refine (hgrow.block C (by simp; omega) ?_).trans ((show _ = w.heap[C]? from Below.heap_alloc w (Obj.cells #[Value.int IntKind.i64 i] 3) C (by omega)).trans HC.out); intro hh; have := (HO.out.lt C hh.symm).1; omega}; have c3' := cell_of_one hC3; have f3' := free_of_one hC3; have HC3 := Lib.hid hC3; have HO3 := Lib.hid hown'; have HG := Lib.hid hgrow; clear hC3 hown' hgrow hnil))
  go_ret
  refine ⟨rfl, _, _, one_setCell HC3.out, ownsRow_setCell_other HO3.out (by simp [Value.ownBlock]; omega) _, ?_, ?_⟩
  · refine Below.setCell ?_ (show lo ≤ C from hlo) _
    exact (((Below.refl _ _).drew).alloc (by simp; omega) _).grown HG.out (by simp; omega) fun k hk => by have := (HO.out.lt k hk).1; omega
  · intro q hq hqC
    rw [Below.heap_setCell _ _ _ _ hqC, HG.out.block q (by simp; omega) (by intro hh; have := (HO.out.lt q hh.symm).1; omega)]
    exact Below.heap_alloc w (Obj.cells #[Value.int IntKind.i64 i] 3) q (by omega)
end Go.Proofs.Ytdddfdblcfngbaa
