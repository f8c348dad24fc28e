/- The contract of Same: whether tokens are the same but for their places. -/
import Derived.Test.YtgcojmjllpjefaaShow
namespace Go.Proofs.Ytgcojmjllpjefaa
open Go.RowKit Go.Proofs.LexMath

def sameB (xs ys : List Tok) : Bool := decide (xs.map Tok.core = ys.map Tok.core)
theorem same_len {xs ys : List Tok} (h : ¬ xs.length = ys.length) : sameB xs ys = false := by
  unfold sameB
  rw [decide_eq_false_iff_not]
  intro e
  have := congrArg List.length e
  simp at this
  exact h this
theorem same_not {xs ys : List Tok} (k : Nat) (hx : k < xs.length) (hy : k < ys.length) (h : ¬ (xs.getD k default).core = (ys.getD k default).core) : sameB xs ys = false := by
  unfold sameB
  rw [decide_eq_false_iff_not]
  intro e
  apply h
  rw [get_tok xs k hx, get_tok ys k hy]
  have h1 : (xs.map Tok.core)[k]'(by simpa using hx) = (ys.map Tok.core)[k]'(by simpa using hy) := by simp only [e]
  simpa using h1
theorem same_all {xs ys : List Tok} (hl : xs.length = ys.length) (h : ∀ i, i < xs.length → (xs.getD i default).core = (ys.getD i default).core) : sameB xs ys = true := by
  unfold sameB
  rw [decide_eq_true_eq]
  refine List.ext_getElem (by simpa using hl) fun i h1 h2 => ?_
  have h1' : i < xs.length := by simpa using h1
  have h2' : i < ys.length := by simpa using h2
  have := h i h1'
  rw [get_tok xs i h1', get_tok ys i h2'] at this
  simpa using this
theorem cell_keep {w w' : World} {b : Nat} (hb : b < w.heap.size) (bel : Below w.heap.size w w') (o : Nat) {v : Value} (h : w.cell? ⟨b, o, none⟩ = some v) : w'.cell? ⟨b, o, none⟩ = some v := (bel.cell (p := ⟨b, o, none⟩) hb).trans h
theorem cell_keep_new {w w' : World} {b : Nat} (hb : b < w.heap.size) (bel : Below w.heap.size w w') (o : Nat) {v : Value} (h : w.cell? ⟨b, o, none⟩ = some v) : ∀ x, (w'.alloc x).cell? ⟨b, o, none⟩ = some v :=
  fun x => cell_keep hb (bel.alloc bel.size x) o h
set_option maxHeartbeats 1000000 in
theorem lsame_far (p q : Option Addr) (n m c d : Nat) (w : World) (h : ¬ n = m) : Calls Try.prog 19 #[.slice p n c, .slice q m d] w (RB false w) := by
  have h2 : ((n : Int) != (m : Int)) = true := by simp; omega
  have h3 : ((n : Int) == (m : Int)) = false := by simp; omega
  clear h
  go_enter Try.func19, Try.ntmps19
  go_wp2
  go_ret
  exact ⟨rfl, Below.refl _ _⟩
theorem lsame_zero (p q : Option Addr) (c d : Nat) (w : World) : Calls Try.prog 19 #[.slice p 0 c, .slice q 0 d] w (RB true w) := by
  go_enter Try.func19, Try.ntmps19
  go_wp2
  refine wp_loop_rounds 1 ?_
  rw [rounds_succ]
  go_wp2
  go_ret
  exact ⟨rfl, Below.refl _ _⟩
set_option maxHeartbeats 4000000 in
theorem lsame_some (b off b2 off2 c d n : Nat) (xs ys : List Tok) (w : World) (hx : Hid (xs.length = n)) (hy : Hid (ys.length = n)) (h1 : Hid (CellsIn w b off (tokCells xs))) (h2 : Hid (CellsIn w b2 off2 (tokCells ys))) (hb : b < w.heap.size) (hb2 : b2 < w.heap.size) (hn : n ≤ 1000000) :
    Calls Try.prog 19 #[.slice (some ⟨b, off, none⟩) n c, .slice (some ⟨b2, off2, none⟩) n d] w (RB (sameB xs ys) w) := by
  have NOT := Lib.hid (fun k a b => @same_not xs ys k a b)
  have ALL := Lib.hid (@same_all xs ys (hx.out.trans hy.out.symm))
  generalize sameB xs ys = r at *
  go_enter Try.func19, Try.ntmps19
  go_wp2
  go_loopw [14] (fun i wr => ∃ k : Nat, k ≤ n ∧ i = .int .i64 k ∧ Below w.heap.size w wr ∧ ∀ j, j < k → (xs.getD j default).core = (ys.getD j default).core) (fun i _ => n - (intOf i).toNat)
  case atStart => exact ⟨0, Nat.zero_le _, rfl, Below.refl _ _, fun j hj => by omega⟩
  case round =>
    obtain ⟨wo, hwo⟩ : ∃ wo : World, wo = wr := ⟨_, rfl⟩
    subst hwo
    obtain ⟨k, hk, rfl, hbel, hpre⟩ := hrel
    have HP := Lib.hid hpre
    clear hpre
    by_cases hlt : k < n
    · obtain ⟨a1, a2, a3, a4⟩ := h1.out.tok k (by rw [hx.out]; exact hlt)
      obtain ⟨e1, e2, e3, e4⟩ := h2.out.tok k (by rw [hy.out]; exact hlt)
      have NK := NOT.out k (by rw [hx.out]; exact hlt) (by rw [hy.out]; exact hlt)
      obtain ⟨x, hxk⟩ : ∃ x, x = xs.getD k default := ⟨_, rfl⟩
      obtain ⟨y, hyk⟩ : ∃ y, y = ys.getD k default := ⟨_, rfl⟩
      rw [← hxk] at a1 a2 a3 a4 NK
      rw [← hyk] at e1 e2 e3 e4 NK
      have HX := Lib.hid hxk
      have HY := Lib.hid hyk
      clear hxk hyk
      obtain ⟨x1, x2, x3, x4⟩ := x
      obtain ⟨y1, y2, y3, y4⟩ := y
      simp only at a1 a2 a3 a4 e1 e2 e3 e4
      simp only [Tok.core] at NK
      have a1 := cell_keep hb hbel _ a1
      have a2 := cell_keep hb hbel _ a2
      have a3 := cell_keep hb hbel _ a3
      have a4 := cell_keep hb hbel _ a4
      have e1 := cell_keep_new hb2 hbel _ e1
      have e2 := cell_keep_new hb2 hbel _ e2
      have e3 := cell_keep_new hb2 hbel _ e3
      have e4 := cell_keep_new hb2 hbel _ e4
      have HB := Lib.hid (fun x => (hbel.alloc hbel.size x).drew)
      by_cases g1 : x1 = y1
      · subst g1
        by_cases g2 : x2 = y2
        · subst g2
          by_cases g3 : x3 = y3
          · subst g3
            clear NK
            go_wp2
            go_region
            go_wp2
            go_roundw
            case rel => exact ⟨k + 1, by omega, by go_num, HB.out _, fun j hj => by
              rcases Nat.lt_or_ge j k with h | h
              · exact HP.out j h
              · rw [show j = k by omega, ← HX.out, ← HY.out]; rfl⟩
            case measure => simp [intOf]; omega
          · have f1 : (x3 == y3) = false := by simpa using g3
            have f2 : (x3 != y3) = true := by simpa using g3
            have E := Lib.hid (NK (by simp [g3]))
            clear NK g3
            go_wp2
            go_region
            go_wp2
            go_ret
            rw [E.out]
            exact ⟨rfl, HB.out _⟩
        · have f3 : (x2.toList == y2.toList) = false := by
            rw [beq_eq_false_iff_ne]
            intro h
            exact g2 (Go.WideShapes.bytes_inj (by simpa [ByteArray.toList_eq] using h))
          have E := Lib.hid (NK (by simp [g2]))
          clear NK g2
          go_wp2
          go_region
          go_wp2
          go_ret
          rw [E.out]
          exact ⟨rfl, HB.out _⟩
      · have f1 : (x1 == y1) = false := by simpa using g1
        have f2 : (x1 != y1) = true := by simpa using g1
        have E := Lib.hid (NK (by simp [g1]))
        clear NK g1
        go_wp2
        go_region
        go_wp2
        go_ret
        rw [E.out]
        exact ⟨rfl, HB.out _⟩
    · have E := Lib.hid (ALL.out fun i hi => HP.out i (by rw [hx.out] at hi; omega))
      clear HP
      go_wp2
      go_ret
      rw [E.out]
      exact ⟨rfl, hbel⟩
theorem lsame_any (v1 v2 : Value) (xs ys : List Tok) (w : World) (h1 : ToksAt w v1 xs) (h2 : ToksAt w v2 ys) (hn : xs.length ≤ 1000000) : Calls Try.prog 19 #[v1, v2] w (RB (sameB xs ys) w) := by
  obtain ⟨_, p, c, rfl, _, _, hp⟩ := h1
  obtain ⟨_, q, d, rfl, _, _, hq⟩ := h2
  by_cases hl : xs.length = ys.length
  · rcases xs with _ | ⟨x, xs⟩
    · obtain rfl : ys = [] := List.eq_nil_of_length_eq_zero hl.symm
      exact lsame_zero p q c d w
    · obtain ⟨b, off, rfl, hb, hc⟩ := hp (by simp)
      obtain ⟨b2, off2, rfl, hb2, hc2⟩ := hq (by rw [← hl]; simp)
      rw [← hl]
      exact lsame_some b off b2 off2 c d _ (x :: xs) ys w (Lib.hid rfl) (Lib.hid hl.symm) hc hc2 hb hb2 hn
  · rw [same_len hl]
    exact lsame_far p q _ _ c d w hl
end Go.Proofs.Ytgcojmjllpjefaa
