/- The contract of the document's Flat. -/
import Derived.Test.YtkmgapieoedelaaFixT
namespace Go.Proofs.Ytkmgapieoedelaa
open Go.Shelf Go.RowKit Go.Lib Go.Sort Go.Proofs.FixMath

/-- A function that returns a list of its own, and where it ends; or -1. -/
def FRes (o : Option (List Int × List Int)) (n : Nat) (W : World) (e : Ending) (w' : World) : Prop := Below W.heap.size W w' ∧ match o with
  | some ar => ∃ p k, e = .returned (.tuple #[.slice p ar.1.length k, .int .i64 ((n : Int) - ar.2.length)]) ∧ IRow W.heap.size w' (.slice p ar.1.length k) ar.1
  | none => e = .returned (.tuple #[.slice none 0 0, .int .i64 (-1)])
theorem FRes.none' {n : Nat} {W w' : World} (h : Below W.heap.size W w') : FRes none n W (.returned (.tuple #[.slice none 0 0, .int .i64 (-1)])) w' := ⟨h, rfl⟩
theorem call37 (vs : Array Value) (w : World) : (callFunc 37 vs).run Try.prog w = .ok (.enter 37 vs) w := run_callFunc Try.func37 (by kernel_rfl) (by kernel_rfl) vs w
theorem drop_suffix {l c r : List Int} {k : Nat} (hk : k ≤ l.length) (h : l.drop k = c ++ r) : r = l.drop (l.length - r.length) ∧ k + c.length = l.length - r.length ∧ r.length ≤ l.length := by
  have hlen := congrArg List.length h
  rw [List.length_drop, List.length_append] at hlen
  have e : l.length - r.length = k + c.length := by omega
  refine ⟨?_, by omega, by omega⟩
  rw [e, ← List.drop_drop, h, List.drop_left]
theorem IRow.elder {b b' : Nat} {w : World} {v : Value} {a : List Int} (h : IRow b w v a) (hb : b' ≤ b) : IRow b' w v a := World.ownsRow.base h hb
theorem rflat_end (v : Value) (n k : Nat) (p : Option Addr) (c : Nat) (w : World) (h : n ≤ k) (hv : v = .slice p n c) : Calls Try.prog 37 #[v, .int .i64 k] w (FRes none n w) := by
  subst hv
  have d : decide ((n : Int) ≤ (k : Int)) = true := by simp; omega
  have d2 : decide (n ≤ k) = true := by simp; omega
  go_enter Try.func37, Try.ntmps37
  go_wp2
  go_ret2
  exact FRes.none' (Below.refl _ _)
set_option maxHeartbeats 1000000 in
theorem rflat_leaf (b off n c k : Nat) (x : Int) (w : World) (hk : k < n) (hn : n ≤ 1000000) (a1 : w.cell? ⟨b, off + k, none⟩ = some (.int .i64 x)) (hx : x < 0) (r : List Int) (hr : Hid (r.length + (k + 1) = n)) : Calls Try.prog 37 #[.slice (some ⟨b, off, none⟩) n c, .int .i64 k] w (FRes (some ([x], r)) n w) := by
  have d : decide ((n : Int) ≤ (k : Int)) = false := by simp; omega
  have d2 : decide (n ≤ k) = false := by simp; omega
  have s1 : (k : Int) < (n : Int) := by omega
  have L0 := Lib.hid (World.ownsRow_lit (base := w.heap.size) (e := 3) (size := 1) w #[.int .i64 x] 1 (Nat.le_refl _) (by unfold maxLen; omega) rfl)
  go_enter Try.func37, Try.ntmps37
  go_wp2
  go_ret2
  refine ⟨(Below.refl _ _).alloc (Nat.le_refl _) _, some ⟨w.heap.size, 0, none⟩, 1, ?_, L0.out⟩
  have : (n : Int) - (r.length : Int) = (k : Int) + 1 := by have := hr.out; omega
  simp only [this]
  rfl
/-- The contract at a place. -/
def FlatAt (l : List Int) (k : Nat) : Prop := ∀ (w : World) (v : Value), IntsAt w v l → Calls Try.prog 37 #[v, .int .i64 k] w (FRes (flatL (l.drop k)) l.length w)
set_option maxRecDepth 100000 in
set_option maxHeartbeats 4000000 in
theorem rflat_node (b off n c k : Nat) (l : List Int) (x : Int) (w : World) (hl : Hid (l.length = n)) (hk : k < n) (hn : n ≤ 1000000) (hnc : n ≤ c) (hcm : Hid (c ≤ maxLen)) (hb : b < w.heap.size) (hc : Hid (CellsIn w b off (intCells l))) (hx : Hid (x = l.getD k 0)) (h0 : 0 ≤ x)
    (H1 : Hid (FlatAt l (k + 1))) (H2 : Hid (∀ m, k < m → FlatAt l m)) : Calls Try.prog 37 #[.slice (some ⟨b, off, none⟩) n c, .int .i64 k] w (FRes (flatL (l.drop k)) n w) := by
  obtain ⟨i0, hi, hz0, hz1, hz2⟩ := infoInt
  have HI := Lib.hid (And.intro hi (And.intro hz0 (And.intro hz1 hz2)))
  clear hi hz0 hz1 hz2
  have HFA : Hid (IntsAt w (.slice (some ⟨b, off, none⟩) n c) l) := Lib.hid ⟨by rw [length_intCells], _, c, by rw [hl.out], by rw [hl.out]; exact hnc, hcm.out, fun _ => ⟨b, off, rfl, hb, hc.out⟩⟩
  have d : decide ((n : Int) ≤ (k : Int)) = false := by simp; omega
  have d2 : decide (n ≤ k) = false := by simp; omega
  have d3 : decide (x < 0) = false := by simp; omega
  have s1 : (k : Int) < (n : Int) := by omega
  have DR : Hid (l.drop k = x :: l.drop (k + 1)) := Lib.hid (by rw [hx.out]; exact drop_int (by rw [hl.out]; exact hk))
  have a1 := hc.out.int k (by rw [hl.out]; exact hk)
  rw [← hx.out] at a1
  have C1 := H1.out w _ HFA.out
  obtain ⟨R, hR⟩ : ∃ R, R = flatL (l.drop k) := ⟨_, rfl⟩
  rw [← hR]
  have HR := Lib.hid hR
  clear hR
  have AT : Hid (∀ w', Below w.heap.size w w' → w'.cell? ⟨b, off + k, none⟩ = some (.int .i64 x)) := Lib.hid fun w' h => by
    have := (hc.out.below hb h).int k (by rw [hl.out]; exact hk)
    rwa [← hx.out] at this
  cases hq : flatL (l.drop (k + 1)) with
  | none =>
    rw [hq] at C1
    have CC := Lib.hid C1
    have E : Hid (R = none) := Lib.hid (by rw [HR.out, DR.out]; exact flatL_no (by omega) hq)
    clear C1 hq
    go_enter Try.func37, Try.ntmps37
    go_wp2_with fail
    refine CC.out.mono ?_
    rintro e w1 ⟨b1, he⟩
    obtain rfl := he
    have B1 := Lib.hid b1
    clear b1
    go_wp2
    go_ret2
    rw [E.out]
    exact FRes.none' B1.out
  | some ar =>
    obtain ⟨a, r⟩ := ar
    obtain ⟨cc, hcc, hc0, hcl⟩ := flatL_rest hq
    have hlk : k + 1 ≤ l.length := by rw [hl.out]; omega
    obtain ⟨e1, e2, e3⟩ := drop_suffix hlk hcc
    rw [hl.out] at e1 e2 e3
    have hcpos : 0 < cc.length := List.length_pos_iff.2 hc0
    have hal : a.length ≤ n := by have := congrArg List.length hcc; rw [List.length_drop, List.length_append, hl.out] at this; omega
    obtain ⟨m, hm⟩ : ∃ m, m = n - r.length := ⟨_, rfl⟩
    rw [← hm] at e1 e2
    rw [hq] at C1
    have hmi : ((n : Int) - (r.length : Int)) = (m : Int) := by omega
    have CC : Hid (Calls Try.prog 37 #[.slice (some ⟨b, off, none⟩) n c, .int .i64 ((k : Int) + 1)] w fun e w' => Below w.heap.size w w' ∧ ∃ p kk, e = .returned (.tuple #[.slice p a.length kk, .int .i64 m]) ∧ IRow w.heap.size w' (.slice p a.length kk) a) := Lib.hid (C1.mono fun e w' ⟨hb1, p, kk, he, hr⟩ => ⟨hb1, p, kk, by rw [he]; simp only [hl.out, hmi], hr⟩)
    have hmk : k < m := by omega
    have hmn : m ≤ n := by omega
    have H2m := Lib.hid (H2.out m hmk)
    have POS : Hid (R = match flatL r with | none => none | some (b2, r') => some (a ++ x :: b2, r')) := Lib.hid (by rw [HR.out, DR.out]; exact flatL_pos (by omega) hq)
    have E1 := Lib.hid e1
    have d4 : decide ((m : Int) < 0) = false := by simp
    clear C1 hq hcc hc0 hcl e1 e2 e3 hmi hlk hm hcpos
    have C2 : Hid (∀ w', Below w.heap.size w w' → Calls Try.prog 37 #[.slice (some ⟨b, off, none⟩) n c, .int .i64 m] w' (FRes (flatL r) n w')) := Lib.hid fun w' h => by
      have := H2m.out w' _ (HFA.out.below h)
      rw [← E1.out, hl.out] at this
      exact this
    cases hq2 : flatL r with
    | none =>
      rw [hq2] at C2
      have E : Hid (R = none) := Lib.hid (by rw [POS.out, hq2])
      clear hq2
      go_enter Try.func37, Try.ntmps37
      go_wp2_with fail
      refine CC.out.mono ?_
      rintro e w1 ⟨b1, p1, k1, rfl, r1⟩
      have B1 := Lib.hid b1
      clear b1 r1
      generalize a.length = n1 at *
      go_wp2_with fail
      refine (C2.out _ B1.out).mono ?_
      rintro e w2 ⟨b2, he⟩
      obtain rfl := he
      have B2 := Lib.hid (B1.out.trans (b2.mono B1.out.size))
      clear b2
      go_wp2
      go_ret2
      rw [E.out]
      exact FRes.none' B2.out
    | some br =>
      obtain ⟨b', r'⟩ := br
      rw [hq2] at C2
      have E : Hid (R = some (a ++ x :: b', r')) := Lib.hid (by rw [POS.out, hq2])
      obtain ⟨cc2, hcc2, hc02, hcl2⟩ := flatL_rest hq2
      have hrl : r.length ≤ n := by rw [E1.out, List.length_drop, hl.out]; omega
      have hcb := congrArg List.length hcc2
      rw [List.length_append] at hcb
      have hbl : b'.length ≤ n := by omega
      have hrn : r'.length ≤ n := by omega
      obtain ⟨m2, hm2⟩ : ∃ m2, m2 = n - r'.length := ⟨_, rfl⟩
      have hmi2 : ((n : Int) - (r'.length : Int)) = (m2 : Int) := by omega
      have C3 : Hid (∀ w', Below w.heap.size w w' → Calls Try.prog 37 #[.slice (some ⟨b, off, none⟩) n c, .int .i64 m] w' fun e w2 => Below w'.heap.size w' w2 ∧ ∃ p kk, e = .returned (.tuple #[.slice p b'.length kk, .int .i64 m2]) ∧ IRow w'.heap.size w2 (.slice p b'.length kk) b') := Lib.hid fun w' h => (C2.out w' h).mono fun e w2 ⟨hb1, p, kk, he, hr⟩ => ⟨hb1, p, kk, by rw [he]; simp only [hmi2], hr⟩
      have d5 : decide ((m2 : Int) < 0) = false := by simp
      have HMI := Lib.hid hmi2
      obtain ⟨n1, hn1⟩ : ∃ n1, n1 = a.length := ⟨_, rfl⟩
      obtain ⟨n2, hn2⟩ : ∃ n2, n2 = b'.length := ⟨_, rfl⟩
      rw [← hn1] at CC hal
      rw [← hn2] at C3 hbl
      have HN1 := Lib.hid hn1
      have HN2 := Lib.hid hn2
      have M1 : Hid (n1 + 1 ≤ maxLen ∧ (n1 + 1) * 8 ≤ 140737488355328) := Lib.hid ⟨by unfold maxLen; omega, by omega⟩
      have M2 : Hid (n1 + 1 + n2 ≤ maxLen ∧ (n1 + 1 + n2) * 8 ≤ 140737488355328) := Lib.hid ⟨by unfold maxLen; omega, by omega⟩
      clear hq2 hcc2 hc02 hcl2 hcb hmi2 hm2 C2 hn1 hn2 POS
      go_enter Try.func37, Try.ntmps37
      go_wp2_with fail
      refine CC.out.mono ?_
      rintro e w1 ⟨b1, p1, k1, rfl, r1⟩
      have B1 := Lib.hid b1
      have R1 := Lib.hid r1
      clear b1 r1
      go_wp2_with fail
      refine (C3.out _ B1.out).mono ?_
      rintro e w2 ⟨b2, p2, k2, rfl, r2⟩
      have B2 := Lib.hid (B1.out.trans (b2.mono B1.out.size))
      have TW : Hid (Two w.heap.size w2 (.slice p1 n1 k1) (.slice p2 n2 k2) a b') := Lib.hid ⟨R1.out.after b2, r2.elder B1.out.size, fun g hg hg2 => by
        have h1 := (R1.out.there hg).2
        have h2 := (r2.there hg2).1
        omega⟩
      have a2 := AT.out w2 B2.out
      have BA : Hid (Below w2.heap.size w2 (w2.alloc (.cells #[.int .i64 x] 3))) := Lib.hid ((Below.refl _ _).alloc (Nat.le_refl _) _)
      have OW := Lib.hid (row_at (TW.out.after BA.out).1 HN1.out.symm)
      clear b2 r2
      go_wp2_with (at_builtin; (first
        | (refine wpList_append_any _ rfl (.tmp 43) (.tmp 48) 38 rfl w.heap.size 3 i0 (.int .i64 0) 1 8 Try.underlying38 HI.out.1 HI.out.2.1 HI.out.2.2.1 HI.out.2.2.2 rfl (by decide) (.slice p1 n1 k1) n1 (intCells a) rfl OW.out (some ⟨w2.heap.size, 0, none⟩) 1 1 [.int .i64 x] rfl rfl (fun _ => ⟨_, rfl, cell_one_new _ _ _⟩) (one_int _) M1.out.1 M1.out.2 (Nat.le_trans B2.out.size BA.out.size) ?_; intro p' cap' w3 hown hgrow hblk; have TW3 := Lib.hid (TW.out.swap.put HN1.out.symm BA.out hown hgrow hblk).swap; have B3 := Lib.hid (below_put B2.out (Nat.le_refl _) TW.out.1 BA.out hgrow); clear hown hgrow hblk)
        | (refine wpList_append_any _ rfl (.tmp 49) (.tmp 50) 38 rfl w.heap.size 3 i0 (.int .i64 0) 1 8 Try.underlying38 HI.out.1 HI.out.2.1 HI.out.2.2.1 HI.out.2.2.2 rfl (by decide) (.slice p' (n1 + 1) cap') (n1 + 1) (intCells (a ++ [x])) rfl (row_at TW3.out.1 (by rw [List.length_append, ← HN1.out]; rfl)) p2 n2 k2 (intCells b') rfl (by rw [length_intCells, ← HN2.out]) (ints_src TW3.out.2.1.at).2 (intCells_one b') M2.out.1 M2.out.2 B3.out.size ?_; intro p5 cap5 w4 hown hgrow hblk; have O4 := Lib.hid hown; have B4 := Lib.hid (below_put B3.out (Nat.le_refl _) TW3.out.1 (Below.refl _ _) hgrow); clear hown hgrow hblk)))
      go_ret2
      rw [E.out]
      have e2 : (a ++ x :: b').length = n1 + 1 + n2 := by simp [← HN1.out, ← HN2.out]; omega
      have e3 : intCells (a ++ x :: b') = intCells (a ++ [x]) ++ intCells b' := by simp [intCells]
      refine ⟨B4.out, p5, cap5, ?_, ?_⟩
      · simp only [e2, HMI.out]
        rfl
      · unfold IRow
        rw [e2, e3]
        exact O4.out
/-- The document's flat, from whatever place. -/
theorem rflat_any (N : Nat) : ∀ (l : List Int) (k : Nat), l.length - k ≤ N → l.length ≤ 1000000 → FlatAt l k := by
  induction N with
  | zero =>
    intro l k hN hn w v h
    obtain ⟨p, c, rfl⟩ := ints_form h
    rw [List.drop_of_length_le (by omega), flatL_nil]
    exact rflat_end _ _ k p c w (by omega) rfl
  | succ N ih =>
    intro l k hN hn w v h
    by_cases hk : k < l.length
    · obtain ⟨_, p, c, rfl, hnc, hcm, hh⟩ := h
      obtain ⟨b, off, rfl, hb, hc⟩ := hh (by omega)
      have a1 := hc.int k hk
      have DR := drop_int hk
      obtain ⟨x, hx⟩ : ∃ x, x = l.getD k 0 := ⟨_, rfl⟩
      by_cases h0 : 0 ≤ x
      · exact rflat_node b off _ c k l x w (Lib.hid rfl) hk hn hnc (Lib.hid hcm) hb (Lib.hid hc) (Lib.hid hx) h0 (Lib.hid (ih l (k + 1) (by omega) hn)) (Lib.hid fun m hm => ih l m (by omega) hn)
      · rw [← hx] at a1 DR
        rw [DR, flatL_neg _ (by omega)]
        exact rflat_leaf b off _ c k x w hk hn a1 (by omega) (l.drop (k + 1)) (Lib.hid (by rw [List.length_drop]; omega))
    · obtain ⟨p, c, rfl⟩ := ints_form h
      rw [List.drop_of_length_le (by omega), flatL_nil]
      exact rflat_end _ _ k p c w (by omega) rfl
theorem rflats_any (v : Value) (l : List Int) (w : World) (h : IntsAt w v l) (hn : l.length ≤ 1000000) : Calls Try.prog 26 #[v] w (BRes (flatA l) w) := by
  have C := rflat_any l.length l 0 (by omega) hn w v h
  rw [List.drop_zero] at C
  have FS := Lib.hid (fun a h => @flatA_some l a h)
  have FL := Lib.hid (fun a r h h' => @flatA_left l a r h h')
  have FN := Lib.hid (@flatA_none l)
  obtain ⟨p, c, rfl⟩ := ints_form h
  obtain ⟨n, hl⟩ : ∃ n, l.length = n := ⟨_, rfl⟩
  rw [hl] at C ⊢
  obtain ⟨R, hR⟩ : ∃ R, R = flatA l := ⟨_, rfl⟩
  rw [← hR] at FS FL FN ⊢
  cases hq : flatL l with
  | none =>
    rw [hq] at C
    have E := Lib.hid (FN.out hq)
    have CC : Hid (Calls Try.prog 37 #[.slice p n c, .int .i64 0] w (FRes none n w)) := Lib.hid C
    have d1 : ((-1 : Int) != (n : Int)) = true := by first | (simp; done) | (simp; omega)
    have d2 : ((-1 : Int) == (n : Int)) = false := by first | (simp; done) | (simp; omega)
    clear C hq hR hl h hn
    go_enter Try.func26, Try.ntmps26
    go_wp2_with fail
    refine CC.out.mono ?_
    rintro e w1 ⟨b1, he⟩
    obtain rfl := he
    have B1 := Lib.hid b1
    clear b1
    go_wp2
    go_ret2
    rw [E.out]
    exact BRes.none' B1.out
  | some ar =>
    obtain ⟨a, r⟩ := ar
    rw [hq] at C
    obtain ⟨cc, hcc, _, hcl⟩ := flatL_rest hq
    have hlen := congrArg List.length hcc
    rw [List.length_append, hl] at hlen
    by_cases hr : r = []
    · subst hr
      have E := Lib.hid (FS.out a hq)
      have CC : Hid (Calls Try.prog 37 #[.slice p n c, .int .i64 0] w fun e w' => Below w.heap.size w w' ∧ ∃ q k, e = .returned (.tuple #[.slice q a.length k, .int .i64 n]) ∧ IRow w.heap.size w' (.slice q a.length k) a) := Lib.hid (Calls.mono C fun e w' ⟨h1, q, k, he, hr⟩ => ⟨h1, q, k, by rw [he]; simp, hr⟩)
      have d1 : ((n : Int) != (n : Int)) = false := by simp
      have d2 : ((n : Int) == (n : Int)) = true := by simp
      clear C hq hR hl h hn hcc hlen hcl
      go_enter Try.func26, Try.ntmps26
      go_wp2_with fail
      refine CC.out.mono ?_
      rintro e w1 ⟨b1, q, k, rfl, r1⟩
      have B1 := Lib.hid b1
      have R1 := Lib.hid r1
      clear b1 r1
      generalize a.length = m at R1 ⊢
      go_wp2
      go_ret2
      rw [E.out]
      exact ⟨B1.out, .slice q m k, rfl, R1.out.at⟩
    · have hrl : 0 < r.length := List.length_pos_iff.2 hr
      have E := Lib.hid (FL.out a r hq hr)
      obtain ⟨z, hz⟩ : ∃ z : Int, z = (n : Int) - r.length := ⟨_, rfl⟩
      have CC : Hid (Calls Try.prog 37 #[.slice p n c, .int .i64 0] w fun e w' => Below w.heap.size w w' ∧ ∃ q k, e = .returned (.tuple #[.slice q a.length k, .int .i64 z]) ∧ IRow w.heap.size w' (.slice q a.length k) a) := Lib.hid (Calls.mono C fun e w' ⟨h1, q, k, he, hr⟩ => ⟨h1, q, k, by rw [he]; simp [hz], hr⟩)
      have d1 : (z != (n : Int)) = true := by simp; omega
      have d2 : (z == (n : Int)) = false := by simp; omega
      clear C hq hR hl h hn hcc hlen hcl hz hrl hr
      go_enter Try.func26, Try.ntmps26
      go_wp2_with fail
      refine CC.out.mono ?_
      rintro e w1 ⟨b1, q, k, rfl, r1⟩
      have B1 := Lib.hid b1
      clear b1 r1
      generalize a.length = m at *
      go_wp2
      go_ret2
      rw [E.out]
      exact BRes.none' B1.out
end Go.Proofs.Ytkmgapieoedelaa
