/- Texts of this seat, one behind the other: ApA, ApB, ApD, RfA. -/
import Derived.RangeFuncWrites
import Derived.RangeFuncBox
import Derived.RangeFuncLeaves
import Derived.RangeFuncNested
import Derived.RangeFuncBound
import Derived.RangeFuncCalls
import Derived.Shelf.Abstract
import Derived.WalkKit
import Derived.OwnWalkIn
import Derived.TacticsInMore
import Derived.LoopNIn
import Derived.LoopIn
import Derived.Maps.OwnIn
import Derived.Test.YtncifeeinogcnaaGreatDoorKn21
/- slices.Backward over bindings: what comes. -/
set_option maxRecDepth 100000
namespace Go.Proofs.YtncifeeinogcnaaGreatDoor
open Go.RowKit Go.Shelf Go.Lib Go.Maps Go.Proofs.TreeMath
attribute [local go_sem] Oper.semAt_some

/-- A binding as it lies: its number within its range, its type a slice's value. -/
abbrev BE := { x : Int × Value // (Lit.int .i64 x.1).wf = true ∧ ∃ q n c, x.2 = .slice q n c ∧ ∀ a, q = some a → a = ⟨a.block, a.off, none⟩ }
instance : Inhabited BE := ⟨⟨(0, .slice none 0 0), by decide, none, 0, 0, rfl, fun a h => by cases h⟩⟩
def BE.val (x : BE) : Value := .agg #[.int .i64 x.1.1, x.1.2]
/-- What has come when k are over: from the last one on. -/
def bwd (xs : List BE) (k : Nat) : List (Nat × BE) := (List.range k).map fun j => (xs.length - 1 - j, xs.getD (xs.length - 1 - j) default)
theorem bwd_succ (xs : List BE) (k : Nat) : bwd xs (k + 1) = bwd xs k ++ [(xs.length - 1 - k, xs.getD (xs.length - 1 - k) default)] := by simp [bwd, List.range_succ]
theorem bwd_length (xs : List BE) (k : Nat) : (bwd xs k).length = k := by simp [bwd]
theorem Frm.cellk {D : Nat → Prop} {B : Nat} {w w' : World} (h : Frm D B w w') {b i : Nat} (hb : b < B) (hd : ¬ D b) : w'.cell? ⟨b, i, none⟩ = w.cell? ⟨b, i, none⟩ := World.cell?_of_block (w := w) (w' := w') (a := ⟨b, i, none⟩) (h.block b hb hd)
/-- What a round keeps: all but the map. -/
abbrev Km (mb n₀ : Nat) (W W' : World) : Prop := Frm (fun k => k = mb) n₀ W W'
set_option maxHeartbeats 2000000 in
theorem backward1_in (F : Fence) (n : Nat) (h7 : F.fn 99) (hro : F.round = none) (hn : 1 ≤ n) (l Bs mb n₀ b off len cap : Nat) (xs : List BE) (hxl : xs.length = len) (hreach : len ≤ 100000000) (hb : b < n₀ ∧ b ≠ mb) (J Jx : List (Nat × BE) → World → Prop)
    (hBn : Bs < n₀ ∧ Bs ≠ mb)
    (hY : ∀ pre x W, J pre W → pre.length < len → YieldAt F (n - 1) Tryz.prog l #[.int .i64 (x.1 : Nat), BE.val x.2] W fun e W' =>
      (e = .returned (.bool true) ∧ J (pre ++ [x]) W' ∧ Km mb n₀ W W') ∨ (e = .returned (.bool false) ∧ Jx (pre ++ [x]) W'))
    (W : World) (hBs : W.cell? ⟨Bs, 0, none⟩ = some (.slice (some ⟨b, off, none⟩) len cap)) (hc : ∀ j, j < len → W.cell? ⟨b, off + j * 2, none⟩ = some (.int .i64 (xs.getD j default).1.1) ∧ W.cell? ⟨b, off + j * 2 + 1, none⟩ = some (xs.getD j default).1.2) (h0 : J [] W) :
    CallsIn F n Tryz.prog 99 #[.func (.yield l) #[] #[], .pointer (some ⟨Bs, 0, none⟩)] W fun e W' => (∃ v, e = .returned v) ∧
      ((∃ ys, ys = bwd xs len ∧ J ys W') ∨ (∃ pre, (∃ k, k ≤ len ∧ pre = bwd xs k) ∧ Jx pre W')) := by
  refine callsIn_of_wp Tryz.func99 rfl h7 ?_ hro
  simp only [Tryz.ntmps99, List.size_toArray, List.length_cons, List.length_nil, Nat.reduceAdd, Nat.reduceSub, Array.replicate_succ, Array.replicate_zero, List.push_toArray, List.append_toArray, List.nil_append, List.cons_append]
  gi_wp2
  gi_loopw [3] (fun i wr => ∃ r : Nat, r ≤ len ∧ i = .int .i64 ((r : Int) - 1) ∧ J (bwd xs (len - r)) wr ∧ Km mb n₀ W wr)
    (fun i _ => ((match i with | .int _ a => a | _ => 0) + 1).toNat)
  case atStart => exact ⟨len, Nat.le_refl _, by first | rfl | simp, by simpa [bwd] using h0, Frm.refl _ _ _⟩
  case round =>
    obtain ⟨r, hr, rfl, hJs, hnx⟩ := hrel
    cases r with
    | zero =>
      gi_wp2
      go_end0
      exact ⟨⟨_, rfl⟩, .inl ⟨_, rfl, by simpa using hJs⟩⟩
    | succ r =>
      have hcx := hc r (by omega)
      have c0 := (hnx.cellk (b := b) (i := off + r * 2) hb.1 hb.2).trans hcx.1
      have c1 := (hnx.cellk (b := b) (i := off + r * 2 + 1) hb.1 hb.2).trans hcx.2
      have cb := (hnx.cellk (b := Bs) (i := 0) hBn.1 hBn.2).trans hBs
      obtain ⟨x, hx⟩ : ∃ x, x = xs.getD r default := ⟨_, rfl⟩
      rw [← hx] at c0 c1
      have hstep : bwd xs (len - r) = bwd xs (len - (r + 1)) ++ [(r, x)] := by
        rw [show len - r = (len - (r + 1)) + 1 by omega, bwd_succ, hxl, show len - 1 - (len - (r + 1)) = r by omega, ← hx]
      obtain ⟨fn, tmps, assign, body, hy, hR⟩ := hY _ (r, x) wr hJs (by rw [bwd_length]; omega)
      unfold BE.val at hy
      simp only at hy
      have e1 : ((r + 1 : Nat) : Int) - 1 = (r : Int) := by omega
      rw [e1]
      have HST := Lib.hid hstep
      have hrl : r < len := by omega
      clear hstep hx hcx e1 hxl
      gi_wp2
      refine hR.mono ?_
      rintro e W3 (⟨rfl, hJ3, hk3⟩ | ⟨rfl, hJx3⟩)
      · have cb3 := (hk3.cellk (b := Bs) (i := 0) hBn.1 hBn.2).trans cb
        gi_wp2
        go_roundw
        case rel => exact ⟨r, by omega, by first | rfl | simp, by rw [HST.out]; exact hJ3, hnx.trans hk3⟩
        case measure => first | (simp; done) | (simp; omega)
      · gi_wp2
        refine bodyPost_ret (results_none rfl _ _ _) rfl ?_
        exact ⟨⟨_, rfl⟩, .inr ⟨_, ⟨len - r, by omega, HST.out.symm⟩, hJx3⟩⟩
end Go.Proofs.YtncifeeinogcnaaGreatDoor
/- Apply: its first loop. -/
set_option maxRecDepth 100000
namespace Go.Proofs.YtncifeeinogcnaaGreatDoor
open Go.RowKit Go.Shelf Go.Lib Go.Maps Go.Proofs.TreeMath
attribute [local go_sem] Oper.semAt_some

theorem backward_in (F : Fence) (n : Nat) (h5 : F.fn 59) (hro : F.round = none) (a : Option Addr) (len cap : Nat) (w : World) :
    CallsIn F n Tryz.prog 59 #[.slice a len cap] w fun e w' => e = .returned (.func (.func 99) #[] #[.pointer (some ⟨w.heap.size, 0, none⟩)]) ∧ w' = w.alloc (.cells #[.slice a len cap] 35) := by
  refine callsIn_of_wp Tryz.func59 rfl h5 ?_ hro
  simp only [Tryz.ntmps59, List.size_toArray, List.length_cons, List.length_nil, Nat.reduceAdd, Nat.reduceSub, Array.replicate_succ, Array.replicate_zero, List.push_toArray, List.append_toArray, List.nil_append, List.cons_append]
  gi_wp2
  go_ret
  exact ⟨rfl, rfl⟩
theorem backward1_nil_in (F : Fence) (n : Nat) (h7 : F.fn 99) (hro : F.round = none) (l Bs : Nat) (q : Option Addr) (c : Nat) (J : List (Nat × BE) → World → Prop) (W : World) (hBs : W.cell? ⟨Bs, 0, none⟩ = some (.slice q 0 c)) (h0 : J [] W) :
    CallsIn F n Tryz.prog 99 #[.func (.yield l) #[] #[], .pointer (some ⟨Bs, 0, none⟩)] W fun e W' => (∃ v, e = .returned v) ∧ J [] W' := by
  refine callsIn_of_wp Tryz.func99 rfl h7 ?_ hro
  simp only [Tryz.ntmps99, List.size_toArray, List.length_cons, List.length_nil, Nat.reduceAdd, Nat.reduceSub, Array.replicate_succ, Array.replicate_zero, List.push_toArray, List.append_toArray, List.nil_append, List.cons_append]
  gi_wp2
  gi_loopw [3] (fun i wr => i = .int .i64 (-1) ∧ J [] wr) (fun _ _ => 0)
  case atStart => exact ⟨by first | rfl | simp, h0⟩
  case round =>
    obtain ⟨rfl, hJs⟩ := hrel
    gi_wp2
    go_end0
    exact ⟨⟨_, rfl⟩, hJs⟩
theorem backward_stops (F : Fence) (n : Nat) (h7 : F.fn 99) (hro : F.round = none) (hn : 1 ≤ n) (Bs mb n₀ : Nat) (q : Option Addr) (cap : Nat) (xs : List BE) (hreach : xs.length ≤ 100000000) (w : World) (hBs : Bs < n₀ ∧ Bs ≠ mb) (hn₀ : n₀ ≤ w.heap.size)
    (hc : w.cell? ⟨Bs, 0, none⟩ = some (.slice q xs.length cap)) (hI : 0 < xs.length → ∃ b off, q = some ⟨b, off, none⟩ ∧ (b < n₀ ∧ b ≠ mb) ∧ ∀ j, j < xs.length → w.cell? ⟨b, off + j * 2, none⟩ = some (.int .i64 (xs.getD j default).1.1) ∧ w.cell? ⟨b, off + j * 2 + 1, none⟩ = some (xs.getD j default).1.2) :
    SeqStopsK F n Tryz.prog 99 #[.pointer (some ⟨Bs, 0, none⟩)] (fun x : Nat × BE => #[Value.int .i64 (x.1 : Nat), BE.val x.2]) (Km mb n₀) (fun ys => ys = bwd xs xs.length) (fun pre => ∃ k, k ≤ xs.length ∧ pre = bwd xs k) xs.length w := fun l J Jx W hW _ _ hY h0 => by
  have hc' := (hW.cell (p := ⟨Bs, 0, none⟩) (Nat.lt_of_lt_of_le hBs.1 hn₀)).trans hc
  by_cases hz : 0 < xs.length
  · obtain ⟨b, off, rfl, hb, hcs⟩ := hI hz
    exact backward1_in F n h7 hro hn l Bs mb n₀ b off xs.length cap xs rfl hreach hb J Jx hBs hY W hc' (fun j hj => ⟨(hW.cell (p := ⟨b, off + j * 2, none⟩) (Nat.lt_of_lt_of_le hb.1 hn₀)).trans (hcs j hj).1, (hW.cell (p := ⟨b, off + j * 2 + 1, none⟩) (Nat.lt_of_lt_of_le hb.1 hn₀)).trans (hcs j hj).2⟩) h0
  · have h00 : xs.length = 0 := by omega
    rw [h00] at hc'
    exact (backward1_nil_in F n h7 hro l Bs q cap J W hc' h0).mono fun e W' ⟨he, hj⟩ => ⟨he, .inl ⟨_, by rw [h00]; rfl, hj⟩⟩
/-- How a slice reads in a map: by its words. -/
def SEd : Value → DM
  | .slice none n c => .agg [.nil, .lit (.int .i64 n), .lit (.int .i64 c)]
  | .slice (some a) n c => .agg [.lit (.int .i64 a.block), .lit (.int .i64 a.off), .lit (.int .i64 n), .lit (.int .i64 c)]
  | _ => .nil
def SE : Value → Option (DM × List MemPlace)
  | .slice none n c => some (SEd (.slice none n c), [])
  | .slice (some a) n c => if a = ⟨a.block, a.off, none⟩ then some (SEd (.slice (some a) n c), []) else none
  | _ => none
theorem SE_of {q : Option Addr} {n c : Nat} (h : ∀ a, q = some a → a = ⟨a.block, a.off, none⟩) : SE (.slice q n c) = some (SEd (.slice q n c), []) := by
  cases q with
  | none => rfl
  | some a => simp only [SE]; rw [if_pos (h a rfl)]
theorem SE_inv {v v' : Value} {ps : List MemPlace} (h : SE v = some (SEd v', ps)) {q : Option Addr} {n c : Nat} (e : v' = .slice q n c) (hq : ∀ a, q = some a → a = ⟨a.block, a.off, none⟩) : v = v' := by
  subst e
  cases v <;> simp only [SE, reduceCtorEq] at h
  rename_i q2 n2 c2
  cases q2 with
  | none =>
    cases q with
    | none =>
      simp only [SEd, Option.some.injEq, Prod.mk.injEq, DataW.agg.injEq, List.cons.injEq, DataW.lit.injEq, Lit.int.injEq, true_and, and_true] at h
      obtain ⟨⟨h1, h2⟩, _⟩ := h
      rw [show n2 = n by omega, show c2 = c by omega]
    | some a => simp [SEd] at h
  | some a2 =>
    simp only at h
    split at h
    · rename_i ha2
      cases q with
      | none => simp [SEd] at h
      | some a =>
        simp only [SEd, Option.some.injEq, Prod.mk.injEq, DataW.agg.injEq, List.cons.injEq, DataW.lit.injEq, Lit.int.injEq, true_and, and_true] at h
        obtain ⟨⟨h0, h1, h2, h3⟩, _⟩ := h
        rw [ha2, hq a rfl, show a2.block = a.block by omega, show a2.off = a.off by omega, show n2 = n by omega, show c2 = c by omega]
    · simp at h
end Go.Proofs.YtncifeeinogcnaaGreatDoor
/- Apply: what its map answers. -/
set_option maxRecDepth 100000
namespace Go.Proofs.YtncifeeinogcnaaGreatDoor
open Go.RowKit Go.Shelf Go.Lib Go.Maps Go.Proofs.TreeMath

/-- What the map holds when these have come. -/
def mpD (ys : List (Nat × BE)) : DM := ys.foldl (fun D x => D.put (kI x.2.1.1) (SEd x.2.1.2)) (.map [])
theorem mpD_snoc (ys : List (Nat × BE)) (x : Nat × BE) : mpD (ys ++ [x]) = (mpD ys).put (kI x.2.1.1) (SEd x.2.1.2) := by unfold mpD; rw [List.foldl_append]; rfl
theorem mpD_isMap (ys : List (Nat × BE)) : IsMap (mpD ys) := by
  unfold mpD
  have : ∀ (ys : List (Nat × BE)) (D : DM), IsMap D → IsMap (ys.foldl (fun D x => D.put (kI x.2.1.1) (SEd x.2.1.2)) D) := by
    intro ys
    induction ys with
    | nil => intro D h; exact h
    | cons y ys ih => intro D h; exact ih _ (h.put _ _)
  exact this ys _ isMap_empty
/-- The first binding of a number stays. -/
theorem mpD_at (xs : List BE) (v : Int) (zd : DM) : ∀ k, k ≤ xs.length →
    ((∀ j, xs.length - k ≤ j → j < xs.length → (xs.getD j default).1.1 ≠ v) ∧ has (mpD (bwd xs k)) (kI v) = false) ∨
    (∃ j, xs.length - k ≤ j ∧ j < xs.length ∧ (xs.getD j default).1.1 = v ∧ (∀ i, xs.length - k ≤ i → i < j → (xs.getD i default).1.1 ≠ v) ∧ has (mpD (bwd xs k)) (kI v) = true ∧ (mpD (bwd xs k)).atKey (kI v) zd = SEd (xs.getD j default).1.2) := by
  intro k
  induction k with
  | zero => intro _; exact .inl ⟨fun j h1 h2 => by omega, rfl⟩
  | succ k ih =>
    intro hk
    rw [bwd_succ, mpD_snoc]
    simp only
    obtain ⟨m, hm⟩ : ∃ m, m = xs.length - 1 - k := ⟨_, rfl⟩
    rw [← hm]
    by_cases e : (xs.getD m default).1.1 = v
    · refine .inr ⟨m, by omega, by omega, e, fun i h1 h2 => by omega, ?_, ?_⟩
      · rw [e]; exact has_put_same (mpD_isMap _) (kI_key _) _
      · rw [e]; exact atKey_put_same (mpD_isMap _) (kI_key _) _ _
    · have hne : kI v ≠ kI (xs.getD m default).1.1 := fun h => e (kI_inj h).symm
      rw [has_put_other hne, atKey_put_other hne]
      rcases ih (by omega) with ⟨h1, h2⟩ | ⟨j, h1, h2, h3, h4, h5, h6⟩
      · refine .inl ⟨fun j h3 h4 => ?_, h2⟩
        by_cases hj : j = m
        · subst hj; exact e
        · exact h1 j (by omega) h4
      · refine .inr ⟨j, by omega, h2, h3, fun i h7 h8 => ?_, h5, h6⟩
        by_cases hi : i = m
        · subst hi; exact e
        · exact h4 i (by omega) h8
def ap1 (g : Int → Option (List Nd)) (n : Nd) : List Nd := if n.kind = 31 then (g n.num).getD [n] else [n]
/-- Nodes with what variables are told to be. -/
def apN (g : Int → Option (List Nd)) (t : List Nd) : List Nd := t.flatMap (ap1 g)
theorem apN_take (g : Int → Option (List Nd)) (t : List Nd) (i : Nat) (hi : i < t.length) : apN g (t.take (i + 1)) = apN g (t.take i) ++ ap1 g (t.getD i default) := by
  rw [take_one t i hi]; unfold apN; rw [List.flatMap_append, List.flatMap_cons, List.flatMap_nil, List.append_nil]
end Go.Proofs.YtncifeeinogcnaaGreatDoor
/- The document's own answers: where a number stands; the variables. -/
set_option maxRecDepth 100000
namespace Go.Proofs.YtncifeeinogcnaaGreatDoor
open Go.RowKit Go.Lib Go.Maps Go.Proofs.TreeMath

def placeI (l : List Int) (n : Int) : Int := if n ∈ l then (l.idxOf n : Int) else -1
theorem place_lt (l : List Int) (n : Int) : decide (placeI l n < 0) = decide (n ∉ l) := by
  unfold placeI
  split
  · rename_i h
    rw [decide_eq_false (by omega), decide_eq_false (by simpa using h)]
  · rename_i h
    rw [decide_eq_true (by omega), decide_eq_true h]
theorem idxOf_at {l : List Int} {n : Int} {j : Nat} (hj : j < l.length) (he : l.getD j 0 = n) (hn : ∀ i, i < j → l.getD i 0 ≠ n) : placeI l n = j := by
  induction l generalizing j with
  | nil => simp at hj
  | cons a l ih =>
    cases j with
    | zero =>
      simp only [List.getD_cons_zero] at he
      subst he
      simp [placeI]
    | succ j =>
      have ha : a ≠ n := by have := hn 0 (by omega); simpa using this
      have h1 := ih (j := j) (by simpa using hj) (by simpa using he) (fun i hi => by have := hn (i + 1) (by omega); simpa using this)
      unfold placeI at h1 ⊢
      have hm : n ∈ l := by
        apply Classical.byContradiction
        intro h
        rw [if_neg h] at h1
        omega
      rw [if_pos hm] at h1
      have h2 : (a :: l).idxOf n = l.idxOf n + 1 := by
        rw [List.idxOf_cons, show (a == n) = false by simpa using ha]; rfl
      rw [if_pos (List.mem_cons_of_mem _ hm), h2]
      omega
theorem idxOf_none {l : List Int} {n : Int} (hn : ∀ i, i < l.length → l.getD i 0 ≠ n) : placeI l n = -1 := by
  unfold placeI
  rw [if_neg]
  intro h
  obtain ⟨i, hi, he⟩ := List.getElem_of_mem h
  refine hn i hi ?_
  rw [List.getD_eq_getElem?_getD, List.getElem?_eq_getElem hi]; exact he
set_option maxHeartbeats 1000000 in
theorem place_any (v : Value) (l : List Int) (n : Int) (w : World) (h : IntsAt w v l) (hl : l.length ≤ 1000000) : Calls Tryz.prog 55 #[v, .int .i64 n] w fun e w' => e = .returned (.int .i64 (placeI l n)) ∧ w = w' := by
  obtain ⟨_, p, c, rfl, _, _, h4⟩ := h
  have CELL := Lib.hid h4
  obtain ⟨k, hk⟩ : ∃ k, k = l.length := ⟨_, rfl⟩
  have HK := Lib.hid hk
  rw [← hk] at hl ⊢
  clear hk h4
  go_enter Tryz.func55, Tryz.ntmps55
  go_wp2
  go_loop [5] (fun i => ∃ j : Nat, j ≤ k ∧ i = .int .i64 j ∧ Hid (∀ i, i < j → l.getD i 0 ≠ n)) (fun i => k - (intOf i).toNat)
  case atStart => exact ⟨0, Nat.zero_le _, rfl, Lib.hid fun i hi => by omega⟩
  case round =>
    obtain ⟨j, hj, rfl, hn⟩ := hrel
    by_cases hlt : j < k
    · obtain ⟨b, o, rfl, _, hc⟩ := CELL.out (by rw [← HK.out]; omega)
      have c0 := hc.int j (by rw [← HK.out]; exact hlt)
      obtain ⟨a, ha⟩ : ∃ a, a = l.getD j 0 := ⟨_, rfl⟩
      rw [← ha] at c0
      have HA := Lib.hid ha
      clear hc ha
      by_cases e : a = n
      · have E := Lib.hid (idxOf_at (l := l) (n := n) (j := j) (by rw [← HK.out]; exact hlt) (by rw [← HA.out]; exact e) hn.out)
        have t1 : (a == n) = true := by simpa using e
        clear hn e
        go_wp2
        go_ret
        exact ⟨by rw [E.out]; rfl, rfl⟩
      · have t1 : (a == n) = false := by simpa using e
        have N2 : Hid (∀ i, i < j + 1 → l.getD i 0 ≠ n) := Lib.hid fun i hi => by
          by_cases h : i = j
          · subst h; rw [← HA.out]; exact e
          · exact hn.out i (by omega)
        clear hn e
        go_wp2
        go_round
        case rel => exact ⟨j + 1, by omega, by go_num, N2⟩
        case measure => simp [intOf]; omega
    · obtain rfl : j = k := by omega
      have E := Lib.hid (idxOf_none (l := l) (n := n) (by rw [← HK.out]; exact hn.out))
      clear hn hlt
      go_wp2
      go_ret
      exact ⟨by rw [E.out]; rfl, rfl⟩
structure VR (w : World) (acc : List Int) (lv : Value) (i : Nat) (wr : World) : Prop where
  row : wr.ownsRow w.heap.size 3 1 lv acc.length (intCells acc)
  len : acc.length ≤ i
  be : Below w.heap.size w wr
theorem VR.more {w : World} {acc : List Int} {lv nv : Value} {i : Nat} {wr w1 w2 : World} {v : Int} (h : VR w acc lv i wr) (b1 : Below wr.heap.size wr w1) (g : w1.grownBy w2 lv.ownBlock) (hn : w2.ownsRow w.heap.size 3 1 nv (acc.length + 1) (intCells acc ++ [.int .i64 v])) : VR w (acc ++ [v]) nv (i + 1) w2 := by
  refine ⟨?_, by rw [List.length_append, List.length_singleton]; have := h.len; omega, (h.be.trans (b1.mono h.be.size)).grown g (Nat.le_trans h.be.size b1.size) fun k e => (World.ownsRow.there h.row e).1⟩
  rw [List.length_append, List.length_singleton, show intCells (acc ++ [v]) = intCells acc ++ [.int .i64 v] by simp [intCells]]
  exact hn
def RvarsP (t : List Nd) (w : World) (e : Ending) (w' : World) : Prop := ∃ lv, e = .returned lv ∧ w'.ownsRow w.heap.size 3 1 lv (varsN t).length (intCells (varsN t)) ∧ Below w.heap.size w w'
set_option maxHeartbeats 4000000 in
theorem rvars_any (tv : Value) (t : List Nd) (w : World) (hns : NodesAt w tv t) (hl : t.length ≤ 1000000) : Calls Tryz.prog 19 #[tv] w (RvarsP t w) := by
  obtain ⟨q, c, rfl⟩ : ∃ q c, tv = .slice q t.length c := by obtain ⟨_, q, c, e, _⟩ := hns; exact ⟨q, c, e⟩
  have V0 : Hid (VR w [] (.slice (some ⟨w.heap.size, 0, none⟩) 0 0) 0 (w.alloc (.cells #[] 3))) := Lib.hid ⟨World.ownsRow_made w #[] 0 (Nat.le_refl _) (by unfold maxLen; omega) (by rfl), Nat.le_refl _, (Below.refl _ _).alloc (Nat.le_refl _) _⟩
  have NS := Lib.hid (fun W (b : Below w.heap.size w W) => hns.below b)
  obtain ⟨l, hlen⟩ : ∃ l, l = t.length := ⟨_, rfl⟩
  have HL := Lib.hid hlen
  rw [← hlen] at NS hl ⊢
  clear hns hlen
  go_enter Tryz.func19, Tryz.ntmps19
  go_wp2
  go_loopw [3, 4] (fun lv i wr => ∃ j : Nat, j ≤ l ∧ i = .int .i64 j ∧ Hid (VR w (varsN (t.take j)) lv j wr)) (fun _ i _ => l - (intOf i).toNat)
  case atStart => exact ⟨0, Nat.zero_le _, rfl, V0⟩
  case round =>
    obtain ⟨j, hj, rfl, hV⟩ := hrel
    clear V0
    by_cases hlt : j < l
    · obtain ⟨n, hn⟩ : ∃ n, n = t.getD j default := ⟨_, rfl⟩
      obtain ⟨g1, q', c', e', g2, g3, g4⟩ := NS.out wr hV.out.be
      obtain ⟨b, o, rfl, gb, gc⟩ := g4 (by rw [← HL.out]; omega)
      simp only [Value.slice.injEq] at e'
      obtain ⟨rfl, hlx, rfl⟩ := e'
      obtain ⟨a0, a1, a2, a3⟩ := CellsIn.node gc j (by rw [← HL.out]; exact hlt)
      rw [← hn] at a0 a1 a2 a3
      have STEP := Lib.hid (varsN_take t j (by rw [← HL.out]; exact hlt))
      rw [← hn] at STEP
      by_cases hk : n.kind = 31
      · have t1 : (n.kind == 31) = true := by simpa using hk
        have PL := place_any u3 (varsN (t.take j)) n.num wr (SliceAt.of_owns hV.out.row) (by have := hV.out.len; omega)
        by_cases hm : n.num ∈ varsN (t.take j)
        · have t2 : decide (placeI (varsN (t.take j)) n.num < 0) = false := by rw [place_lt]; simpa using hm
          have V2 : Hid (VR w (varsN (t.take (j + 1))) u3 (j + 1) wr) := Lib.hid (by
            rw [STEP.out, show vstep (varsN (t.take j)) n = varsN (t.take j) by unfold vstep; rw [if_neg fun h => h.2 hm]]
            exact ⟨hV.out.row, by have := hV.out.len; omega, hV.out.be⟩)
          have PLH := Lib.hid PL
          generalize placeI (varsN (t.take j)) n.num = pl at *
          clear hn hlx g1 g2 g3 g4 gb gc hk hm PL hV STEP
          go_wp2_with fail
          refine PLH.out.mono ?_
          rintro e w1 ⟨rfl, rfl⟩
          clear PLH
          go_wp2
          go_roundw
          case rel => exact ⟨j + 1, by omega, by go_num, V2⟩
          case measure => simp [intOf]; omega
        · have t2 : decide (placeI (varsN (t.take j)) n.num < 0) = true := by rw [place_lt]; simpa using hm
          rw [show vstep (varsN (t.take j)) n = varsN (t.take j) ++ [n.num] by unfold vstep; rw [if_pos ⟨hk, hm⟩]] at STEP
          have PLH := Lib.hid PL
          generalize placeI (varsN (t.take j)) n.num = pl at *
          obtain ⟨acc, hacc⟩ : ∃ acc, acc = varsN (t.take j) := ⟨_, rfl⟩
          rw [← hacc] at hV STEP
          obtain ⟨ql, cl, hql⟩ := row_form hV.out.row
          obtain ⟨k, hkl⟩ : ∃ k, k = acc.length := ⟨_, rfl⟩
          rw [← hkl] at hql
          subst hql
          have HKL := Lib.hid hkl
          have hkj : k ≤ j := by have := hV.out.len; omega
          have AL2 : Below wr.heap.size wr (wr.alloc (.cells #[.int .i64 n.num] 3)) := (Below.refl wr.heap.size wr).alloc (Nat.le_refl _) _
          have ROWA := Lib.hid (show (wr.alloc (.cells #[.int .i64 n.num] 3)).ownsRow w.heap.size 3 1 (.slice ql k cl) k (intCells acc) from by
            have hrow := hV.out.row
            rw [← hkl] at hrow
            exact World.ownsRow.keep hrow fun g hg => AL2.block g (World.ownsRow.there hrow hg).2)
          have ALH := Lib.hid AL2
          have HLC := Lib.hid (lit_cells wr #[.int .i64 n.num] 3)
          obtain ⟨j0, j1, j2, j3, j4⟩ := info3
          have HJ := Lib.hid (And.intro j1 (And.intro j2 (And.intro j3 j4)))
          have HMX := Lib.hid (show k + 1 ≤ maxLen ∧ (k + 1) * 8 ≤ 140737488355328 ∧ w.heap.size ≤ (wr.alloc (.cells #[.int .i64 n.num] 3)).heap.size from ⟨by unfold maxLen; omega, by omega, by have := hV.out.be.size; simp; omega⟩)
          clear hn hlx g1 g2 g3 g4 gb gc hk hm PL hkl j1 j2 j3 j4 AL2 hacc
          go_wp2_with fail
          refine PLH.out.mono ?_
          rintro e w1 ⟨rfl, rfl⟩
          clear PLH
          go_wp2_with (at_builtin; refine wpList_append_any _ rfl _ _ 30 rfl w.heap.size 3 j0 (.int .i64 0) 1 8 Tryz.underlying30 HJ.out.1 HJ.out.2.1 HJ.out.2.2.1 HJ.out.2.2.2 rfl (by decide) (.slice ql k cl) k (intCells acc) rfl ROWA.out (some ⟨wr.heap.size, 0, none⟩) 1 1 [.int .i64 n.num] rfl rfl (fun _ => ⟨_, rfl, CellsIn.at HLC.out⟩) (by intro u hu; simp at hu; rw [hu]; rfl) HMX.out.1 HMX.out.2.1 HMX.out.2.2 ?_; intro p' cap' w8 hown hgrow hblk; have RN := Lib.hid hown; have GN := Lib.hid hgrow; clear hown hgrow hblk)
          go_roundw
          case rel =>
            refine ⟨j + 1, by omega, by go_num, ?_⟩
            rw [STEP.out]
            exact Lib.hid (hV.out.more ALH.out GN.out (by rw [← HKL.out]; exact RN.out))
          case measure => simp [intOf]; omega
      · have t1 : (n.kind == 31) = false := by simpa using hk
        have V2 : Hid (VR w (varsN (t.take (j + 1))) u3 (j + 1) wr) := Lib.hid (by
          rw [STEP.out, show vstep (varsN (t.take j)) n = varsN (t.take j) by unfold vstep; rw [if_neg fun h => hk h.1]]
          exact ⟨hV.out.row, by have := hV.out.len; omega, hV.out.be⟩)
        clear hn hlx g1 g2 g3 g4 gb gc hk hV STEP
        go_wp2
        go_roundw
        case rel => exact ⟨j + 1, by omega, by go_num, V2⟩
        case measure => simp [intOf]; omega
    · obtain rfl : j = l := by omega
      have et : t.take j = t := List.take_of_length_le (by rw [← HL.out]; omega)
      rw [et] at hV
      have E : Hid (RvarsP t w (.returned u3) wr) := ⟨u3, rfl, hV.out.row, hV.out.be⟩
      clear hV hlt et
      go_wp2
      go_ret
      exact E.out
end Go.Proofs.YtncifeeinogcnaaGreatDoor
