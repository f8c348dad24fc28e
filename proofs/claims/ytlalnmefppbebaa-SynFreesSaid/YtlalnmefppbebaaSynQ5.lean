/- The document's node: what is wrong with one. -/
import Derived.Test.YtlalnmefppbebaaSynQ1
import Derived.Test.YtlalnmefppbebaaSynQ2
import Derived.Test.YtlalnmefppbebaaSynQ3
namespace Go.Proofs.Ytlalnmefppbebaa
open Go.RowKit Go.Proofs.TreeMath
theorem rnode_in (b off n c i : Nat) (k m d k2 : Int) (s : ByteArray) (pat : Bool) (w : World) (hb : b < w.heap.size) (hi : i < n) (hnm : n ≤ 1000000)
    (c0 : w.cell? ⟨b, off + i * 4, none⟩ = some (.int .i64 k)) (c1 : w.cell? ⟨b, off + i * 4 + 1, none⟩ = some (.string s)) (c2 : w.cell? ⟨b, off + i * 4 + 2, none⟩ = some (.int .i64 m)) (c3 : w.cell? ⟨b, off + i * 4 + 3, none⟩ = some (.int .i64 d))
    (hx : k = 8 → d = 2 → i + 1 < n ∧ w.cell? ⟨b, off + (i + 1) * 4, none⟩ = some (.int .i64 k2)) (hs : s.size ≤ 300) :
    Calls Try.prog 54 #[.slice (some ⟨b, off, none⟩) n c, .int .i64 (i : Int), .bool pat] w (RI (faultE ⟨k, s, m, d⟩ k2 (pl pat)) w) := by
  have SRT := Lib.hid (fun W => rsort_any k W)
  have WR : Hid (∀ W : World, Calls Try.prog 65 #[.int .i64 m] W (fun e w' => e = .returned (.int .i64 (Lx.wr m)) ∧ W = w')) := Lib.hid (fun W => Lx.rwrap_any m W)
  obtain ⟨R, hR⟩ : ∃ R, R = faultE ⟨k, s, m, d⟩ k2 (pl pat) := ⟨_, rfl⟩
  rw [← hR]
  unfold faultE at hR
  simp only at hR
  obtain ⟨sk0, sk1, sk2, sk3, skA⟩ := sort_kinds k
  by_cases hS : sortR k = -1
  · have hF : R = 61 := by
      rcases kind_cases k with hk | hk | hk
      · exfalso
        have : k = 1 ∨ k = 2 ∨ k = 3 ∨ k = 4 ∨ k = 5 ∨ k = 6 ∨ k = 7 ∨ k = 8 ∨ k = 9 ∨ k = 10 ∨ k = 11 ∨ k = 12 := by omega
        rcases this with rfl | rfl | rfl | rfl | rfl | rfl | rfl | rfl | rfl | rfl | rfl | rfl <;> exact absurd hS (by decide)
      · exfalso
        have : k = 21 ∨ k = 22 ∨ k = 23 ∨ k = 24 := by omega
        rcases this with rfl | rfl | rfl | rfl <;> exact absurd hS (by decide)
      · rw [hR, hk.2]; rfl
    subst hF
    rw [hS] at SRT
    have n1 : (k == 1) = false := by
      cases h : (k == 1) with
      | false => rfl
      | true => rw [show k = 1 by simpa using h] at hS; exact absurd hS (by decide)
    have n2 : (k == 23) = false := by
      cases h : (k == 23) with
      | false => rfl
      | true => rw [show k = 23 by simpa using h] at hS; exact absurd hS (by decide)
    exact rnode_a b off n c i k m d s pat w hi hnm c0 c1 c2 c3 SRT n1 n2
  · have AL2 := allows_sort k pat hS
    have gS : decide (sortR k < 0) = false := by
      rcases skA with h | h | h | h | h
      · exact absurd h hS
      all_goals (rw [h]; decide)
    have hnb : (k = 1 ∨ k = 23) ∨ ((k == 1) = false ∧ (k == 23) = false) := by
      by_cases h : k = 1 ∨ k = 23
      · exact .inl h
      · right; constructor <;> (simp; omega)
    cases hz : (isPatB k != pat) with
    | true =>
      have hq : isPatB k = !pat := by cases h : isPatB k <;> cases pat <;> simp_all
      have IP : Hid (∀ W : World, Calls Try.prog 27 #[.int .i64 k] W (fun e w' => e = .returned (.bool (!pat)) ∧ W = w')) := Lib.hid (fun W => by rw [← hq]; exact isPat_any k W)
      have hF : R = 61 := by rw [hR, AL2, hz]; rfl
      subst hF
      rcases hnb with (rfl | rfl) | ⟨n1, n2⟩
      · exact rnode_b1 b off n c i 1 m d s pat w _ hi hnm c0 c1 c2 c3 SRT IP gS rfl
      · exact rnode_b23 b off n c i 23 m d s pat w _ hi hnm c0 c1 c2 c3 SRT IP gS rfl rfl
      · exact rnode_b b off n c i k m d s pat w _ hi hnm c0 c1 c2 c3 SRT IP gS n1 n2
    | false =>
      have hq : isPatB k = pat := by cases h : isPatB k <;> cases pat <;> simp_all
      have IP : Hid (∀ W : World, Calls Try.prog 27 #[.int .i64 k] W (fun e w' => e = .returned (.bool pat) ∧ W = w')) := Lib.hid (fun W => by rw [← hq]; exact isPat_any k W)
      rw [AL2, hz] at hR
      cases hy : kidsB k d with
      | false =>
        have KD : Hid (∀ W : World, Calls Try.prog 77 #[.int .i64 k, .int .i64 d] W (fun e w' => e = .returned (.bool false) ∧ W = w')) := Lib.hid (fun W => by rw [← hy]; exact rkids_any k d W)
        have hF : R = 61 := by rw [hR, hy]; simp
        subst hF
        rcases hnb with (rfl | rfl) | ⟨n1, n2⟩
        · exact rnode_c1 b off n c i 1 m d s pat w _ hi hnm c0 c1 c2 c3 SRT IP KD gS rfl
        · exact rnode_c23 b off n c i 23 m d s pat w _ hi hnm c0 c1 c2 c3 SRT IP KD gS rfl rfl
        · exact rnode_c b off n c i k m d s pat w _ hi hnm c0 c1 c2 c3 SRT IP KD gS n1 n2
      | true =>
        have KD : Hid (∀ W : World, Calls Try.prog 77 #[.int .i64 k, .int .i64 d] W (fun e w' => e = .returned (.bool true) ∧ W = w')) := Lib.hid (fun W => by rw [← hy]; exact rkids_any k d W)
        rw [hy] at hR
        rcases hnb with hn | ⟨n1, n2⟩
        · -- a number
          by_cases hw : Lx.wr m = m
          · rw [hw] at WR
            have hnum : numB k m = true := by simp [numB, hn, hw]
            have hS0 : sortR k = 0 := by rcases hn with rfl | rfl <;> decide
            have g8 : (k == 8) = false := by rcases hn with rfl | rfl <;> decide
            have e8 : ¬ k = 8 := by simpa using g8
            obtain ⟨e1, e2⟩ := sk0 hS0
            rw [hS0] at SRT
            by_cases ht : s = ByteArray.empty
            · have hF : R = 0 := by rw [hR, hnum]; simp [textE, e1, e8, ht]
              subst hF
              rcases hn with rfl | rfl
              · exact rnode_e1 b off n c i 1 m d s pat w hi hnm c0 c1 c2 c3 SRT IP KD WR rfl rfl ht
              · exact rnode_e23 b off n c i 23 m d s pat w hi hnm c0 c1 c2 c3 SRT IP KD WR rfl rfl rfl ht
            · have hF : R = 61 := by rw [hR, hnum]; simp [textE, e1, e8, ht]
              subst hF
              rcases hn with rfl | rfl
              · exact rnode_f1 b off n c i 1 m d s pat w hi hnm c0 c1 c2 c3 SRT IP KD WR rfl (text_nn ht) (text_nn2 ht)
              · exact rnode_f23 b off n c i 23 m d s pat w hi hnm c0 c1 c2 c3 SRT IP KD WR rfl rfl (text_nn ht) (text_nn2 ht)
          · have hnum : numB k m = false := by simp [numB, hn, hw]
            have hS0 : sortR k = 0 := by rcases hn with rfl | rfl <;> decide
            rw [hS0] at SRT
            have hF : R = 61 := by rw [hR, hnum]; simp
            subst hF
            have gw : (Lx.wr m != m) = true := by simpa using hw
            rcases hn with rfl | rfl
            · exact rnode_d1 b off n c i 1 m d s pat w _ hi hnm c0 c1 c2 c3 SRT IP KD WR rfl gw
            · exact rnode_d23 b off n c i 23 m d s pat w _ hi hnm c0 c1 c2 c3 SRT IP KD WR rfl rfl gw
        · have m1 : ¬ k = 1 := by simpa using n1
          have m2 : ¬ k = 23 := by simpa using n2
          by_cases hm : m = 0
          · have hnum : numB k m = true := by simp [numB, m1, m2, hm]
            rw [hnum] at hR
            rcases skA with h | h | h | h | h
            · exact absurd h hS
            · -- nothing
              obtain ⟨e1, e2⟩ := sk0 h
              rw [h] at SRT
              by_cases ht : s = ByteArray.empty
              · have hF : R = 0 := by rw [hR]; simp [textE, e1, e2, ht]
                subst hF
                exact rnode_h b off n c i k m d s pat w hi hnm c0 c1 c2 c3 SRT IP KD n1 n2 (by simpa using e2) hm ht
              · have hF : R = 61 := by rw [hR]; simp [textE, e1, e2, ht]
                subst hF
                exact rnode_i b off n c i k m d s pat w hi hnm c0 c1 c2 c3 SRT IP KD n1 n2 hm (text_nn ht) (text_nn2 ht)
            · -- a name
              obtain ⟨e1, e3, e4⟩ := sk1 h
              rw [h] at SRT
              have NM := Lib.hid (fun W => rname_any s W hs)
              by_cases h8 : k = 8
              · have hd := kids_8 h8 hy
                obtain ⟨hi2, cx⟩ := hx h8 hd
                have hin2 : ((i : Int) + 1 < (n : Int)) := by omega
                have g8 : (k == 8) = true := by simpa using h8
                by_cases h5 : k2 = 5
                · exact rnode_l b off n c i k m d s pat w _ R _ hi hnm c0 c1 c2 c3 SRT IP KD NM (Lib.hid (by rw [hR]; simp [textE, e1, h5])) n1 n2 hm g8 hb hin2 cx h5
                · have hF : R = 61 := by rw [hR]; simp [h8, h5]
                  subst hF
                  exact rnode_m b off n c i k m d s pat w k2 hi hnm c0 c1 c2 c3 SRT IP KD n1 n2 hm g8 hb hin2 cx (by simpa using h5)
              · exact rnode_o b off n c i k m d s pat w R _ hi hnm c0 c1 c2 c3 SRT IP KD NM (Lib.hid (by rw [hR]; simp [textE, e1, h8])) n1 n2 hm (by simpa using h8)
            · -- a constructor
              obtain ⟨e1, e2, e3, e4⟩ := sk2 h
              rw [h] at SRT
              have NM := Lib.hid (fun W => rcon_any s W hs)
              exact rnode_p b off n c i k m d s pat w R _ hi hnm c0 c1 c2 c3 SRT IP KD NM (Lib.hid (by rw [hR]; simp [textE, e1, e2])) n1 n2 hm (by simpa using e2)
            · -- a text
              obtain ⟨e1, e2, e3, e4⟩ := sk3 h
              rw [h] at SRT
              by_cases ht : s.size ≤ 200
              · have hF : R = 0 := by rw [hR]; simp [textE, e1, e2, ht]
                subst hF
                exact rnode_j b off n c i k m d s pat w hi hnm c0 c1 c2 c3 SRT IP KD n1 n2 (by simpa using e2) hm (by simp; omega)
              · have hF : R = 61 := by rw [hR]; simp [textE, e1, e2, ht]
                subst hF
                exact rnode_k b off n c i k m d s pat w hi hnm c0 c1 c2 c3 SRT IP KD n1 n2 hm (by simp; omega)
          · have hnum : numB k m = false := by simp [numB, m1, m2, hm]
            have hF : R = 61 := by rw [hR, hnum]; simp
            subst hF
            exact rnode_g b off n c i k m d s pat w _ hi hnm c0 c1 c2 c3 SRT IP KD gS n1 n2 (by simpa using hm)
end Go.Proofs.Ytlalnmefppbebaa
