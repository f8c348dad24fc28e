/- The contract of holds: each operator's parts bind closer, or are of its level on its side. -/
import Derived.Test.YtkmgapieoedelaaFixY
namespace Go.Proofs.FixMath
/-- What begins at a place: an operand, or an operator that binds closer, or is of its level on its side. -/
def Kid (l : List Fx) (ss : List ByteArray) (c : List Int) (a : Nat) (f : Fx) (s : Int) : Prop := a < c.length ∧ (c.getD a 0 < 0 ∨ ∃ (k : Nat) (g : Fx), c.getD a 0 = (k : Int) ∧ k < ss.length ∧ find l (ss.getD k default) = some g ∧ f.level ≤ g.level ∧ (g.level = f.level → f.side = s ∧ g.side = s))
theorem at_mid (pre t : List Int) (x : Int) : (pre ++ x :: t).getD pre.length 0 = x := by simp [List.getD_eq_getElem?_getD]
theorem part_take {p : List Fx} {i k : Nat} (h : k < i) : (p.take i).getD k default = p.getD k default := by
  rw [List.getD_eq_getElem?_getD, List.getD_eq_getElem?_getD, List.getElem?_take_of_lt h]
theorem part_drop {p : List Fx} {i k : Nat} : (p.drop i).getD k default = p.getD (i + k) default := by
  rw [List.getD_eq_getElem?_getD, List.getD_eq_getElem?_getD, List.getElem?_drop]
theorem kid_head {l : List Fx} {ss : List ByteArray} {c : List Int} {p : List Fx} {fr : Nat} {cc pre suf : List Int} {f : Fx} {s : Int} (h : bindL p fr = some cc) (hc : c = pre ++ (cc ++ suf))
    (hfind : ∀ i, i < p.length → find l (ss.getD (fr + i) default) = some (p.getD i default)) (hlen : fr + p.length ≤ ss.length)
    (hroot : ∀ k, root p = some k → f.level ≤ (p.getD k default).level ∧ ((p.getD k default).level = f.level → f.side = s ∧ (p.getD k default).side = s)) : Kid l ss c pre.length f s := by
  rcases bind_head h with ⟨rfl, rfl⟩ | ⟨i, a, b, hr, rfl, ha, hb⟩
  · refine ⟨by rw [hc]; simp, .inl ?_⟩
    rw [hc, List.cons_append, at_mid]
    omega
  · have hi := (root_lt hr).1
    refine ⟨by rw [hc]; simp, .inr ⟨fr + i, p.getD i default, ?_, by omega, hfind i hi, hroot i hr⟩⟩
    rw [hc, List.cons_append, at_mid]
    omega
end Go.Proofs.FixMath
namespace Go.Proofs.Ytkmgapieoedelaa
open Go.Shelf Go.RowKit Go.Lib Go.Sort Go.Proofs.FixMath

/-- The contract from one place up to another one. -/
def HoldsAt (l : List Fx) (ss : List ByteArray) (c : List Int) (a z : Nat) : Prop := ∀ (w : World) (v u x : Value), FixAt w v l → StrsAt w u ss → IntsAt w x c → Calls Try.prog 27 #[v, u, x, .int .i64 a] w (IRet z w)
theorem holds_leaf {l : List Fx} {ss : List ByteArray} {c : List Int} {a : Nat} (hc : c.length ≤ 1000) (h : a < c.length) (hn : c.getD a 0 < 0) : HoldsAt l ss c a (a + 1 : Nat) := by
  intro w v u x h1 h2 h3
  obtain ⟨p, k, rfl⟩ := ints_form h3
  obtain ⟨b, off, rfl, hb, hcc⟩ := ints_at h3 (by omega)
  have q0 := hcc.int a h
  obtain ⟨y, hy⟩ : ∃ y, y = c.getD a 0 := ⟨_, rfl⟩
  rw [← hy] at q0 hn
  obtain ⟨n, hl⟩ : ∃ n, n = c.length := ⟨_, rfl⟩
  rw [← hl] at h hc ⊢
  have s1 : (a : Int) < (n : Int) := by omega
  have ab : a ≤ 1000 := by omega
  clear hy hcc h3 h1 h2 hl
  go_enter Try.func27, Try.ntmps27
  go_wp2
  go_ret
  exact ⟨by rfl, Below.refl _ _⟩
set_option maxRecDepth 100000 in
set_option maxHeartbeats 4000000 in
theorem holds_node {l : List Fx} {ss : List ByteArray} {c : List Int} {a k : Nat} {f : Fx} (T : Nat → Nat) (hc : c.length ≤ 1000) (hsl : ss.length ≤ 1000) (hll : l.length ≤ 1000000) (h : a < c.length) (hk : c.getD a 0 = (k : Int)) (hkm : k < ss.length) (hfk : find l (ss.getD k default) = some f)
    (h0 : T 0 = a + 1) (hT : T 2 ≤ 1000) (K : ∀ j : Nat, j < 2 → Kid l ss c (T j) f (2 * (j : Int) - 1)) (H : ∀ j, j < 2 → HoldsAt l ss c (T j) (T (j + 1))) : HoldsAt l ss c a (T 2) := by
  intro w v u x h1 h2 h3
  have H1 := Lib.hid h1
  have H2 := Lib.hid h2
  have H3 := Lib.hid h3
  obtain ⟨p0, c0, rfl⟩ := fix_form h1
  obtain ⟨p1, c1, rfl⟩ := strs_form h2
  obtain ⟨p2, c2, rfl⟩ := ints_form h3
  obtain ⟨b1, o1, rfl, hb1, hc1⟩ := strs_at h2 (by omega)
  obtain ⟨b2, o2, rfl, hb2, hc2⟩ := ints_at h3 (by omega)
  have q0 := hc2.int a h
  have q1 := hc1.str k hkm
  have C1 := Lib.hid (fun (W : World) (b : Below w.heap.size w W) (k : Nat) (h : k < ss.length) => (hc1.below hb1 b).str k h)
  have C2 := Lib.hid (fun (W : World) (b : Below w.heap.size w W) (k : Nat) (h : k < c.length) => (hc2.below hb2 b).int k h)
  have FD := Lib.hid (fun (W : World) (b : Below w.heap.size w W) op => rfind_fix _ l op W (h1.below b) hll)
  have HR := Lib.hid (fun (W : World) (b : Below w.heap.size w W) (j : Nat) (hj : j < 2) => H j hj W _ _ _ (h1.below b) (h2.below b) (h3.below b))
  have F0 := rfind_fix _ l (ss.getD k default) w h1 hll
  rw [hfk] at F0
  rw [hk] at q0
  have KK := Lib.hid K
  obtain ⟨s, hs⟩ : ∃ s, s = ss.getD k default := ⟨_, rfl⟩
  rw [← hs] at q1 F0
  have FF := Lib.hid F0
  clear F0 hs hk hfk H K h1 h2 h3 hc1 hc2
  have FL : Hid (∀ j : Nat, j < 2 → T j < c.length) := Lib.hid fun j hj => (KK.out j hj).1
  obtain ⟨n, hn⟩ : ∃ n, n = c.length := ⟨_, rfl⟩
  obtain ⟨m, hm⟩ : ∃ m, m = ss.length := ⟨_, rfl⟩
  rw [← hn] at h hc H3 HR C2 FL ⊢
  rw [← hm] at hkm hsl H2 HR C1 ⊢
  have HM := Lib.hid hm
  have HN := Lib.hid hn
  have s1 : (a : Int) < (n : Int) := by omega
  have s2 : (k : Int) < (m : Int) := by omega
  have ab : a ≤ 1000 := by omega
  have kb : k ≤ 1000 := by omega
  have HT := Lib.hid hT
  have HT0 := Lib.hid h0
  obtain ⟨f0, f1, f2⟩ := f
  clear hn hm hT h0
  go_enter Try.func27, Try.ntmps27
  go_wp2_with fail
  refine FF.out.mono ?_
  rintro e w1 ⟨rfl, b1'⟩
  have B1 := Lib.hid b1'
  clear b1' q0 q1
  simp only [fxV, Option.getD_some, Option.isSome_some]
  have NB := Lib.hid (FixBlk.new w1 ⟨f0, f1, f2⟩)
  have BX : Hid (Below w.heap.size w (w1.alloc (.cells #[.string f0, .int .i64 f1, .int .i64 f2] 24))) := Lib.hid (B1.out.trans (((Below.refl _ _).alloc (Nat.le_refl _) _).mono B1.out.size))
  have BS := B1.out.size
  go_wp2
  go_loopw [11, 12] (fun s11 s12 wr => ∃ j : Nat, j ≤ 2 ∧ s11 = .int .i64 (T j) ∧ s12 = .int .i64 (2 * (j : Int) - 1) ∧ FixBlk wr w1.heap.size ⟨f0, f1, f2⟩ ∧ Below w.heap.size w wr) (fun _ s12 _ => (5 - intOf s12).toNat)
  case atStart => exact ⟨0, by omega, by rw [HT0.out]; go_num, rfl, NB.out, BX.out⟩
  case round =>
    obtain ⟨wo, hwo⟩ : ∃ wo : World, wo = wr := ⟨_, rfl⟩
    subst hwo
    obtain ⟨j, hj, rfl, rfl, hblk, hbel⟩ := hrel
    have HBK := Lib.hid hblk
    have HB := Lib.hid hbel
    by_cases hlt : j < 2
    · obtain ⟨hal, hkid⟩ := KK.out j hlt
      rw [← HN.out] at hal
      obtain ⟨A, hA⟩ : ∃ A, A = T j := ⟨_, rfl⟩
      obtain ⟨D, hD⟩ : ∃ D, D = T (j + 1) := ⟨_, rfl⟩
      rw [← hA] at hal hkid ⊢
      have REC : Hid (∀ W, Below w.heap.size w W → Calls Try.prog 27 #[.slice p0 l.length c0, .slice (some ⟨b1, o1, none⟩) m c1, .slice (some ⟨b2, o2, none⟩) n c2, .int .i64 A] W (IRet D W)) := Lib.hid fun W b => by
        rw [hA, hD]
        exact HR.out W b j hlt
      have HD := Lib.hid hD
      have z0 := C2.out wo hbel A hal
      obtain ⟨y, hy⟩ : ∃ y, y = c.getD A 0 := ⟨_, rfl⟩
      rw [← hy] at z0 hkid
      have A1000 : A ≤ 1000 := by omega
      have s3 : (A : Int) < (n : Int) := by omega
      have t1 : 2 * (j : Int) - 1 ≤ 1 := by omega
      clear hy hA hD s1 s2 ab kb h hkm
      rcases hkid with hneg | ⟨k2, ⟨g0, g1, g2⟩, rfl, hkm2, hfk2, hlev, hside⟩
      · clear hblk hbel
        go_wp2_with fail
        refine (REC.out wo HB.out).mono ?_
        rintro e w2 ⟨rfl, b2⟩
        have B2 := Lib.hid (HB.out.trans (b2.mono HB.out.size))
        have K2 := Lib.hid (HBK.out.below b2 HBK.out.lt)
        clear b2 z0
        go_wp2
        go_roundw
        case rel => exact ⟨j + 1, by omega, by rw [HD.out], by go_num, K2.out, B2.out⟩
        case measure => simp [intOf]; omega
      · rw [← HM.out] at hkm2
        have z1 := C1.out wo hbel k2 hkm2
        have F0 := FD.out wo hbel (ss.getD k2 default)
        rw [hfk2] at F0
        obtain ⟨s', hs'⟩ : ∃ s', s' = ss.getD k2 default := ⟨_, rfl⟩
        rw [← hs'] at z1 F0
        have F1 := Lib.hid F0
        have s4 : (k2 : Int) < (m : Int) := by omega
        have k1000 : k2 ≤ 1000 := by omega
        simp only at hlev hside
        clear hs' F0 hfk2 hblk hbel
        go_wp2_with fail
        refine F1.out.mono ?_
        rintro e w2 ⟨rfl, b2⟩
        have B2 := Lib.hid (HB.out.trans (b2.mono HB.out.size))
        have K2 := Lib.hid (HBK.out.below b2 HBK.out.lt)
        obtain ⟨e0, e1, e2⟩ := K2.out.cells
        have hbl := K2.out.lt
        have hne : w1.heap.size ≠ w2.heap.size := by omega
        simp only [fxV, Option.getD_some, Option.isSome_some]
        simp only at e0 e1 e2
        have BY : Hid (Below w2.heap.size w2 (w2.alloc (.cells #[.string g0, .int .i64 g1, .int .i64 g2] 24))) := Lib.hid ((Below.refl _ _).alloc (Nat.le_refl _) _)
        have d1 : decide (g1 < f1) = false := by simp; omega
        clear b2 z0 z1
        by_cases hq : g1 = f1
        · obtain ⟨u1, u2⟩ := hside hq
          have d2 : (g1 == f1) = true := by simpa using hq
          have d3 : (f2 != 2 * (j : Int) - 1) = false := by simpa using u1
          have d4 : (g2 != 2 * (j : Int) - 1) = false := by simpa using u2
          clear hside hlev hq u1 u2
          go_wp2_with fail
          refine (REC.out _ (B2.out.trans (BY.out.mono B2.out.size))).mono ?_
          rintro e w3 ⟨rfl, b3⟩
          have B3 := Lib.hid ((B2.out.trans (BY.out.mono B2.out.size)).trans (b3.mono (Nat.le_trans B2.out.size BY.out.size)))
          have K3 := Lib.hid ((K2.out.below BY.out K2.out.lt).below b3 (Nat.lt_of_lt_of_le K2.out.lt BY.out.size))
          clear b3 e0 e1 e2
          go_wp2
          go_roundw
          case rel => exact ⟨j + 1, by omega, by rw [HD.out], by go_num, K3.out, B3.out⟩
          case measure => simp [intOf]; omega
        · have d2 : (g1 == f1) = false := by simpa using hq
          clear hside hlev hq
          go_wp2_with fail
          refine (REC.out _ (B2.out.trans (BY.out.mono B2.out.size))).mono ?_
          rintro e w3 ⟨rfl, b3⟩
          have B3 := Lib.hid ((B2.out.trans (BY.out.mono B2.out.size)).trans (b3.mono (Nat.le_trans B2.out.size BY.out.size)))
          have K3 := Lib.hid ((K2.out.below BY.out K2.out.lt).below b3 (Nat.lt_of_lt_of_le K2.out.lt BY.out.size))
          clear b3 e0 e1 e2
          go_wp2
          go_roundw
          case rel => exact ⟨j + 1, by omega, by rw [HD.out], by go_num, K3.out, B3.out⟩
          case measure => simp [intOf]; omega
    · obtain rfl : j = 2 := by omega
      have t1 : decide (2 * ((2 : Nat) : Int) - 1 ≤ 1) = false := by decide
      clear hblk hbel
      go_wp2
      go_ret
      exact ⟨rfl, HB.out⟩
theorem holds_any (l : List Fx) (ss : List ByteArray) (c : List Int) (hc : c.length ≤ 1000) (hsl : ss.length ≤ 1000) (hll : l.length ≤ 1000000) (n : Nat) : ∀ (p : List Fx) (fr : Nat) (cc pre suf : List Int), p.length ≤ n → bindL p fr = some cc → c = pre ++ (cc ++ suf) →
    (∀ i, i < p.length → find l (ss.getD (fr + i) default) = some (p.getD i default)) → fr + p.length ≤ ss.length → (∀ f ∈ p, fine f) → HoldsAt l ss c pre.length (pre.length + cc.length) := by
  induction n with
  | zero =>
    intro p fr cc pre suf hn hb he _ _ _
    obtain rfl : p = [] := List.eq_nil_of_length_eq_zero (by omega)
    rw [bindL_nil] at hb
    obtain rfl : [-1 - (fr : Int)] = cc := by simpa using hb
    refine holds_leaf hc (by rw [he]; simp) ?_
    rw [he, List.cons_append, at_mid]
    omega
  | succ n ih =>
    intro p fr cc pre suf hn hb he hfind hlen hfine
    rcases bind_head hb with ⟨rfl, rfl⟩ | ⟨i, a, b, hr, rfl, ha, hb2⟩
    · refine holds_leaf hc (by rw [he]; simp) ?_
      rw [he, List.cons_append, at_mid]
      omega
    · have hi := (root_lt hr).1
      have hb3 : bindL (p.drop (i + 1)) ((fr + i + 1 : Nat) : Int) = some b := by rw [← hb2]; congr 1
      have hm : ∀ g ∈ p.take i, fine g := fun g hg => hfine g (List.mem_of_mem_take hg)
      have hm2 : ∀ g ∈ p.drop (i + 1), fine g := fun g hg => hfine g (List.mem_of_mem_drop hg)
      have e1 : c = (pre ++ [(fr : Int) + i]) ++ (a ++ (b ++ suf)) := by rw [he]; simp
      have e2 : c = (pre ++ (((fr : Int) + i) :: a)) ++ (b ++ suf) := by rw [he]; simp
      have f1 : ∀ j, j < (p.take i).length → find l (ss.getD (fr + j) default) = some ((p.take i).getD j default) := fun j hj => by
        rw [List.length_take] at hj
        rw [part_take (by omega)]
        exact hfind j (by omega)
      have f2 : ∀ j, j < (p.drop (i + 1)).length → find l (ss.getD (fr + i + 1 + j) default) = some ((p.drop (i + 1)).getD j default) := fun j hj => by
        rw [List.length_drop] at hj
        rw [part_drop, show fr + i + 1 + j = fr + (i + 1 + j) by omega]
        exact hfind _ (by omega)
      have n1 : fr + (p.take i).length ≤ ss.length := by rw [List.length_take]; omega
      have n2 : fr + i + 1 + (p.drop (i + 1)).length ≤ ss.length := by rw [List.length_drop]; omega
      have H1 := ih _ fr a _ _ (by rw [List.length_take]; omega) ha e1 f1 n1 hm
      have H2 := ih _ (fr + i + 1) b _ _ (by rw [List.length_drop]; omega) hb3 e2 f2 n2 hm2
      have K1 : Kid l ss c (pre ++ [(fr : Int) + i]).length (p.getD i default) (-1) := kid_head ha e1 f1 n1 fun k hk => by
        obtain ⟨x, y, z⟩ := left_binds hfine hr hk
        rw [part_take x]
        exact ⟨y, z⟩
      have K2 : Kid l ss c (pre ++ (((fr : Int) + i) :: a)).length (p.getD i default) 1 := kid_head hb3 e2 f2 n2 fun k hk => by
        obtain ⟨x, y, z⟩ := right_binds hfine hr hk
        rw [part_drop]
        exact ⟨y, z⟩
      have L1 : (pre ++ [(fr : Int) + i]).length = pre.length + 1 := by simp
      have L2 : (pre ++ (((fr : Int) + i) :: a)).length = pre.length + 1 + a.length := by simp; omega
      rw [L1] at H1 K1
      rw [L2] at H2 K2
      have LC : c.length = pre.length + 1 + a.length + b.length + suf.length := by rw [he]; simp; omega
      have := holds_node (l := l) (ss := ss) (c := c) (a := pre.length) (k := fr + i) (f := p.getD i default) (fun j => if j = 0 then pre.length + 1 else if j = 1 then pre.length + 1 + a.length else pre.length + 1 + a.length + b.length) hc hsl hll (by omega) (by rw [he, List.cons_append, at_mid]; omega) (by omega) (hfind i hi) rfl (by simp; omega)
        (fun j hj => by
          rcases (show j = 0 ∨ j = 1 by omega) with rfl | rfl
          · exact K1
          · exact K2)
        (fun j hj => by
          rcases (show j = 0 ∨ j = 1 by omega) with rfl | rfl
          · exact H1
          · exact H2)
      have e3 : pre.length + (((fr : Int) + i) :: (a ++ b)).length = pre.length + 1 + a.length + b.length := by simp; omega
      rw [e3]
      exact this
end Go.Proofs.Ytkmgapieoedelaa
