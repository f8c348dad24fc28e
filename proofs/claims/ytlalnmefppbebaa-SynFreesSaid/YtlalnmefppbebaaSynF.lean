/- Sets of texts; the contract of repeats. -/
import Derived.Test.YtlalnmefppbebaaSynE
namespace Go.Proofs.Ytlalnmefppbebaa
open Go.RowKit Go.Maps Go.WideShapes Go.Proofs.TreeMath
/-- A text as a key. -/
def litS (s : ByteArray) : Lit := .string s.data.toList
theorem litS_inj {a b : ByteArray} (h : litS a = litS b) : a = b := by
  unfold litS at h
  injection h with h
  obtain ⟨⟨a⟩⟩ := a
  obtain ⟨⟨b⟩⟩ := b
  simpa using h
theorem litS_key (s : ByteArray) : WideAt.IsKeyLit (litS s) := trivial
theorem litS_same (a b : ByteArray) : (litS a).sameKey (litS b) = decide (a = b) := by
  rw [Bool.eq_iff_iff, WideAt.sameKey_iff (litS_key b), decide_eq_true_iff]
  exact ⟨litS_inj, fun h => by rw [h]⟩
theorem law9 : Keyed Try.prog 9 := string_keyed Try.underlying9
theorem zero56 (w : World) : (zeroValue 56).run Try.prog w = .ok (.agg #[]) w := by kernel_rfl
theorem keyS (s : ByteArray) (h : s.size ≤ 300) : keyOf Try.prog 9 (.string s) = some (litS s) := WideMaps.keyOf_string_mk Try.underlying9 (by unfold maxLen; omega)
theorem any_lit (L : List ByteArray) (s : ByteArray) : (L.map litS).any (fun y => y.sameKey (litS s)) = inB s L := by
  unfold inB
  rw [List.any_map]
  congr 1
  funext y
  exact litS_same y s
theorem addKey_lit (L : List ByteArray) (s : ByteArray) : addKey (L.map litS) (litS s) = (if inB s L then L else L ++ [s]).map litS := by
  unfold addKey
  rw [any_lit]
  split <;> simp
theorem fold_lit (xs : List ByteArray) : ∀ acc, (xs.map litS).foldl addKey (acc.map litS) = (addAll acc xs).map litS := by
  induction xs with
  | nil => intro acc; rfl
  | cons x xs ih =>
    intro acc
    rw [List.map_cons, List.foldl_cons, addKey_lit, ih]
    rfl
/-- None is there, and none is twice. -/
def freshB (acc : List ByteArray) : List ByteArray → Bool
  | [] => true
  | x :: l => !inB x acc && freshB (acc ++ [x]) l
theorem addAll_len (l : List ByteArray) : ∀ acc, (addAll acc l).length ≤ acc.length + l.length ∧ ((addAll acc l).length = acc.length + l.length ↔ freshB acc l = true) := by
  induction l with
  | nil => intro acc; exact ⟨Nat.le_refl _, by simp [addAll, freshB]⟩
  | cons x l ih =>
    intro acc
    have e : addAll acc (x :: l) = addAll (if inB x acc then acc else acc ++ [x]) l := rfl
    rw [e]
    cases hx : inB x acc with
    | true =>
      obtain ⟨h1, h2⟩ := ih acc
      simp only [if_true, List.length_cons, freshB, hx, Bool.not_true, Bool.false_and, Bool.false_eq_true, iff_false]
      omega
    | false =>
      obtain ⟨h1, h2⟩ := ih (acc ++ [x])
      simp only [Bool.false_eq_true, if_false, List.length_cons, freshB, hx, Bool.not_false, Bool.true_and]
      rw [List.length_append, List.length_singleton] at h1 h2
      rw [← h2]
      omega
theorem inB_append (s : ByteArray) (a b : List ByteArray) : inB s (a ++ b) = (inB s a || inB s b) := by simp [inB]
theorem inB_one (s x : ByteArray) : inB s [x] = decide (x = s) := by simp [inB]
theorem fresh_dup (l : List ByteArray) : ∀ acc, freshB acc l = (!dupB l && l.all fun x => !inB x acc) := by
  induction l with
  | nil => intro acc; rfl
  | cons x l ih =>
    intro acc
    simp only [freshB, dupB, List.all_cons, ih]
    have e : (l.all fun y => !inB y (acc ++ [x])) = (!inB x l && l.all fun y => !inB y acc) := by
      rw [Bool.eq_iff_iff]
      simp only [List.all_eq_true, Bool.and_eq_true, Bool.not_eq_true', inB_append, Bool.or_eq_false_iff, inB_one, decide_eq_false_iff_not]
      constructor
      · intro h
        refine ⟨?_, fun y hy => (h y hy).1⟩
        cases hx : inB x l with
        | false => rfl
        | true => exact absurd rfl (h x (inB_iff.1 hx)).2
      · rintro ⟨h1, h2⟩ y hy
        refine ⟨h2 y hy, ?_⟩
        rintro rfl
        rw [inB_iff.2 hy] at h1
        cases h1
    rw [e]
    cases inB x acc <;> cases dupB l <;> cases inB x l <;> simp
theorem dup_len (l : List ByteArray) : decide ((addAll [] l).length < l.length) = dupB l := by
  obtain ⟨h1, h2⟩ := addAll_len l []
  rw [fresh_dup] at h2
  simp only [List.length_nil, Nat.zero_add] at h1 h2
  have e : (l.all fun x => !inB x []) = true := by simp [inB]
  rw [e, Bool.and_true] at h2
  rw [Bool.eq_iff_iff, decide_eq_true_iff]
  cases hd : dupB l with
  | false => rw [hd] at h2; simp at h2 ⊢; omega
  | true => rw [hd] at h2; simp at h2 ⊢; omega
def setS (l : List ByteArray) : DataW Unit := setOf (.agg []) (l.map litS)
theorem setS_size (l : List ByteArray) : Maps.size (setS l) = (addAll [] l).length := by
  unfold setS
  rw [size_setOf _ _ (by intro x hx; obtain ⟨s, _, rfl⟩ := List.mem_map.1 hx; exact litS_key s)]
  have := fold_lit l []
  rw [List.map_nil] at this
  rw [this, List.length_map]
theorem setS_snoc (l : List ByteArray) (s : ByteArray) : setS (l ++ [s]) = (setS l).put (litS s) (.agg []) := by
  unfold setS
  rw [List.map_append]
  exact setOf_snoc _ _ _
set_option maxRecDepth 100000 in
set_option maxHeartbeats 2000000 in
theorem repeats_in (p : Option Addr) (n c : Nat) (ss : List ByteArray) (w : World) (hl : Hid (ss.length = n)) (hn : n ≤ 100000) (hs : Hid (∀ s ∈ ss, s.size ≤ 300)) (hp : Hid (n ≠ 0 → ∃ b off, p = some ⟨b, off, none⟩ ∧ b < w.heap.size ∧ CellsIn w b off (strCells ss))) :
    Calls Try.prog 53 #[.slice p n c] w (RB (dupB ss) w) := by
  have hmm := @run_makeMap Try.prog
  obtain ⟨R, hR⟩ : ∃ R, R = dupB ss := ⟨_, rfl⟩
  rw [← hR]
  have HR := Lib.hid hR
  clear hR
  go_enter Try.func53, Try.ntmps53
  go_wp2
  go_loopw [9] (fun s9 wr => ∃ j : Nat, j ≤ n ∧ s9 = .int .i64 (j : Int) ∧ wr.ownsMap Try.prog 9 (unitElem (H := Unit)) w.heap.size j (setS (ss.take j)) ∧ Below w.heap.size w wr) (fun s9 _ => n - (intOf s9).toNat)
  case atStart => exact ⟨0, Nat.zero_le _, rfl, World.ownsMap_made _ _ _ _, (Below.refl _ _).alloc (Nat.le_refl _) _⟩
  case round =>
    obtain ⟨wo, hwo⟩ : ∃ wo : World, wo = wr := ⟨_, rfl⟩
    subst hwo
    obtain ⟨j, hj, rfl, hown, hbel⟩ := hrel
    have OWN := Lib.hid hown
    have BEL := Lib.hid hbel
    clear hown hbel
    by_cases hlt : j < n
    · obtain ⟨b, off, rfl, hb, hc⟩ := hp.out (by omega)
      have hjl : j < ss.length := by rw [hl.out]; exact hlt
      have c0 := (hc.kept (BEL.out.block b hb)).str j hjl
      have hss := hs.out (ss.getD j default) (by rw [List.getD_eq_getElem?_getD, List.getElem?_eq_getElem hjl]; exact List.getElem_mem hjl)
      have ST : Hid (setS (ss.take (j + 1)) = (setS (ss.take j)).put (litS (ss.getD j default)) (.agg [])) := Lib.hid (by rw [← setS_snoc, List.take_succ_eq_append_getElem hjl, List.getD_eq_getElem?_getD, List.getElem?_eq_getElem hjl]; rfl)
      obtain ⟨t, ht⟩ : ∃ t, t = ss.getD j default := ⟨_, rfl⟩
      rw [← ht] at c0 hss ST
      clear ht hc hp hjl
      have hkey := Lib.hid (keyS t hss)
      have hltz : ((j : Int) < (n : Int)) := by omega
      clear hss
      go_wp2_with (at_mapUpdate; refine wpList_mapUpdate_own _ rfl _ _ _ 55 rfl 9 56 law9 Try.underlying55 (unitElem (H := Unit)) w.heap.size j _ rfl OWN.out (by unfold maxLen; omega) _ _ _ rfl rfl hkey.out _ [] unitElem_mk ?_; intro w1 hown1 hgrow1; have OWN1 := Lib.hid hown1; have HG := Lib.hid hgrow1; clear hown1 hgrow1)
      go_roundw
      case rel =>
        exact ⟨j + 1, hlt, by go_num, by rw [ST.out]; exact OWN1.out, BEL.out.grown HG.out BEL.out.size (fun k hk => by cases hk; exact Nat.le_refl _)⟩
      case measure => simp [intOf]; omega
    · obtain rfl : j = n := by omega
      have SZ : Hid (Maps.size (setS (ss.take j)) = (addAll [] ss).length) := Lib.hid (by rw [List.take_of_length_le (by rw [hl.out]; omega)]; exact setS_size ss)
      go_wp2_with (first | (at_len; refine wpList_len_own _ rfl _ 55 rfl 9 56 Try.underlying55 _ w.heap.size j _ rfl OWN.out ?_) | go_in)
      go_ret
      refine ⟨ret_b ?_, BEL.out⟩
      rw [SZ.out, HR.out, ← dup_len, hl.out]
theorem repeats_any (v : Value) (ss : List ByteArray) (w : World) (h : StrsAt w v ss) (hn : ss.length ≤ 100000) (hs : ∀ s ∈ ss, s.size ≤ 300) : Calls Try.prog 53 #[v] w (RB (dupB ss) w) := by
  obtain ⟨_, p, c, rfl, _, _, hp⟩ := h
  exact repeats_in p ss.length c ss w (Lib.hid rfl) hn (Lib.hid hs) (Lib.hid hp)
end Go.Proofs.Ytlalnmefppbebaa
