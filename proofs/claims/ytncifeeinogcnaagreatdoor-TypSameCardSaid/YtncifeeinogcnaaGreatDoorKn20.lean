/- Texts of this seat, one behind the other: UnD, UnE, UnF, UnG, UnH. -/
import Derived.Test.YtncifeeinogcnaaGreatDoorKn19
import Derived.Carry
import Derived.Shelf.SlIterI.Nil
import Derived.Shelf.SortM.Plain
import Derived.Shelf.SortM.SortNone
/- A new store; a fresh variable. -/
set_option maxRecDepth 100000
namespace Go.Proofs.YtncifeeinogcnaaGreatDoor
open Go.RowKit Go.Lib Go.Maps Go.Proofs.TreeMath

theorem variable_any (v : Int) (w : World) : Calls Tryz.prog 51 #[.int .i64 v] w (NNew w [vN v]) := by
  go_enter Tryz.func51, Tryz.ntmps51
  go_wp2_with fail
  refine (make_new 31 v 0 ⟨#[]⟩ none 0 _).mono ?_
  rintro e w1 ⟨b, n, c, rfl, hb, hv, hb1⟩
  have H := Lib.hid (show NNew w [vN v] (.returned (.slice (some ⟨b, 0, none⟩) n c)) w1 from ⟨b, n, c, rfl, hb, hv, hb1⟩)
  clear hv hb hb1
  go_wp2
  go_ret
  exact H.out
def S0 : SS := ⟨[], fun _ => ⟨31, ⟨#[]⟩, 0, 0⟩, fun _ => [], id, fun _ => false, fun _ => 0, fun _ => none⟩
theorem n0 {tr : Nat → T} {x : Nat} (h : (S0.gr tr).ids x) : False := by cases h
theorem n1 {x : Nat} (h : x ∈ S0.dom) : False := by cases h
theorem core0 (tr : Nat → T) : Core S0 tr [] where
  ok := { var := fun _ h => (n0 h).elim, con := fun _ h => (n0 h).elim, kin := fun _ h => (n0 h).elim, uniq := fun _ _ h => (n0 h).elim }
  sol := { rin := fun _ h => (n0 h).elim, rid := fun _ => rfl, rout := fun _ _ => rfl, opin := fun _ h => absurd h (by simp), snd := fun _ _ => ⟨fun _ h => (n0 h).elim, fun _ h => absurd h (by simp)⟩, cls := fun _ h => (n0 h).elim, least := fun _ h => (n0 h).elim, done := fun _ h => absurd h (by simp) }
  wk := fun _ h => (n0 h).elim
  acc := fun _ h => (n1 h).elim
theorem has_none (a : Lit) : has (.map [] : DM) a = false := rfl
theorem st0 (w : World) (nx : Int) (tr : Nat → T) : ST (w.heap.size + 2) ((w.alloc (.map #[] 0)).alloc (.cells #[.int .i64 nx, .map (some w.heap.size), .int .i64 0] 95)) S0 tr [] (w.heap.size + 1) w.heap.size 0 (.map []) nx 0 := by
  refine ⟨core0 tr, ⟨fun _ => none, fun x => ?_, fun _ _ h => absurd h (by simp), fun _ h => (n1 h).elim, fun _ h => (n1 h).elim, by simp⟩, ?_, ?_, ⟨by omega, by omega⟩, fun _ h => (n1 h).elim, fun v h => ?_, fun _ h => (n1 h).elim, Int.le_refl _, fun _ h => (n1 h).elim⟩
  · exact .stop rfl
  · have := alloc_top (w.alloc (.map #[] 0)) (.cells #[.int .i64 nx, .map (some w.heap.size), .int .i64 0] 95)
    rw [show (w.alloc (.map #[] 0)).heap.size = w.heap.size + 1 by simp] at this
    exact this
  · exact (World.ownsMap_made w Tryz.prog 2 PE).alloc _
  · rw [has_none] at h; exact absurd h (by decide)
theorem newstore_any (nx : Int) (w : World) : Calls Tryz.prog 39 #[.int .i64 nx] w fun e w' => e = .returned (pv (w.heap.size + 1)) ∧ ST w'.heap.size w' S0 (fun _ => vT 0) [] (w.heap.size + 1) w.heap.size 0 (.map []) nx 0 ∧ Below w.heap.size w w' := by
  have E : Hid (ST (w.heap.size + 2) ((w.alloc (.map #[] 0)).alloc (.cells #[.int .i64 nx, .map (some w.heap.size), .int .i64 0] 95)) S0 (fun _ => vT 0) [] (w.heap.size + 1) w.heap.size 0 (.map []) nx 0 ∧ Below w.heap.size w ((w.alloc (.map #[] 0)).alloc (.cells #[.int .i64 nx, .map (some w.heap.size), .int .i64 0] 95))) := ⟨st0 w nx _, below_two w _ _⟩
  have hmm := @run_makeMap Tryz.prog
  unfold pv
  go_enter Tryz.func39, Tryz.ntmps39
  go_wp2
  go_ret
  refine ⟨rfl, ?_, E.out.2⟩
  have := E.out.1
  simpa using this
end Go.Proofs.YtncifeeinogcnaaGreatDoor
/- A fresh variable. -/
set_option maxRecDepth 100000
namespace Go.Proofs.YtncifeeinogcnaaGreatDoor
open Go.RowKit Go.Lib Go.Maps Go.Proofs.TreeMath

theorem ST.next {B : Nat} {w : World} {S : SS} {tr : Nat → T} {es : List (T × T)} {sb mb n : Nat} {D : DM} {nx mrk : Int} (h : ST B w S tr es sb mb n D nx mrk) (ny : Int) : ST B (w.setCell ⟨sb, 0, none⟩ (.int .i64 ny)) S tr es sb mb n D ny mrk := by
  have hs : sb ∉ S.dom := fun hd => by
    obtain ⟨_, cs, hc⟩ := h.tw.blk hd
    rw [h.sbk] at hc; simp at hc
  have hm : mb ≠ sb := fun e => map_ne h.map h.sbk e.symm
  have oth : ∀ k, k ≠ sb → (w.setCell ⟨sb, 0, none⟩ (.int .i64 ny)).heap[k]? = w.heap[k]? := fun k hk => Below.heap_setCell _ _ _ _ hk
  refine ⟨h.core, ?_, ?_, ?_, h.bnd, h.key, h.only, h.mle, h.pos, h.rng⟩
  · obtain ⟨y, k⟩ := h.tw
    refine ⟨y, k.lead, k.bin, fun x hx => ?_, k.kin, by have := k.fit; simpa [World.setCell] using this⟩
    obtain ⟨h1, kv, h2, h3⟩ := k.blk x hx
    refine ⟨h1, kv, (oth x (by rintro rfl; exact hs hx)).trans h2, fun e => (h3 e).of_block fun g hg => oth g ?_⟩
    rintro rfl
    obtain ⟨cur, hc⟩ := (h3 e).ty hg
    rw [h.sbk] at hc; simp at hc
  · rw [set_blk h.sbk]; rfl
  · obtain ⟨es', cl, hb, r⟩ := h.map
    exact ⟨es', cl, (oth mb hm).trans hb, r⟩
def FrP (S : SS) (tr : Nat → T) (es : List (T × T)) (sb mb n : Nat) (D : DM) (nx mrk : Int) (w : World) (e : Ending) (w' : World) : Prop :=
  ∃ b m c, e = .returned (.slice (some ⟨b, 0, none⟩) m c) ∧ w.heap.size ≤ b ∧ NodesAt w' (.slice (some ⟨b, 0, none⟩) m c) [vN nx] ∧ ST w'.heap.size w' S tr es sb mb n D (nx + 1) mrk ∧ Frm (fun k => k = sb) w.heap.size w w'
theorem fresh_any (S : SS) (tr : Nat → T) (es : List (T × T)) (sb mb n : Nat) (D : DM) (nx mrk : Int) (w : World) (h : ST w.heap.size w S tr es sb mb n D nx mrk) (h0 : 0 ≤ nx) (h1 : nx ≤ 1000000000) : Calls Tryz.prog 40 #[pv sb] w (FrP S tr es sb mb n D nx mrk w) := by
  have c0 := cell_of_heap h.sbk 0
  have f0 := frozen_of_heap h.sbk 0
  simp only [List.getElem?_toArray, List.getElem?_cons_zero] at c0
  have hsl : sb < w.heap.size := (Array.getElem?_eq_some_iff.1 h.sbk).1
  have CALL := Lib.hid (variable_any nx w)
  have H := Lib.hid h
  have HS := Lib.hid hsl
  have C0 := Lib.hid c0
  have F0 := Lib.hid f0
  clear h hsl f0
  unfold pv
  go_enter Tryz.func40, Tryz.ntmps40
  go_wp2_with fail
  refine CALL.out.mono ?_
  rintro e w1 ⟨b, m, c, rfl, hb, hv, b1⟩
  have c1 := (b1.cell (p := ⟨sb, 0, none⟩) HS.out).trans C0.out
  have f1 := (b1.frozen (p := ⟨sb, 0, none⟩) HS.out).trans F0.out
  have E : Hid (FrP S tr es sb mb n D nx mrk w (.returned (.slice (some ⟨b, 0, none⟩) m c)) (w1.setCell ⟨sb, 0, none⟩ (.int .i64 (nx + 1)))) := by
    have hz : (w1.setCell ⟨sb, 0, none⟩ (.int .i64 (nx + 1))).heap.size = w1.heap.size := by simp [World.setCell]
    have st := ((H.out.frm b1).raise b1.size (Nat.le_refl _)).next (nx + 1)
    refine ⟨b, m, c, rfl, hb, ?_, by rw [hz]; exact st, Frm.setCell (D := fun k => k = sb) (Frm.of_below b1) rfl _⟩
    refine hv.keep (by rw [hz]; exact Nat.le_refl _) fun b' o' m' c' e hbz => Below.heap_setCell _ _ _ _ ?_
    simp only [Value.slice.injEq, Option.some.injEq, Addr.mk.injEq, and_true] at e
    have := HS.out
    show b' ≠ sb
    obtain ⟨rfl, _⟩ := e.1
    omega
  clear hv b1 CALL c0 hb
  go_wp2
  go_ret
  exact E.out
end Go.Proofs.YtncifeeinogcnaaGreatDoor
/- The keys of a store's map, sorted. -/
set_option maxRecDepth 100000
namespace Go.Proofs.YtncifeeinogcnaaGreatDoor
open Go.RowKit Go.Maps Go.Sort Go.Shelf

def keysLays_ren : Go.Shelf.Ren := ⟨fun | 7 => 57 | 10 => 98 | n => n, fun | 23 => 92 | 26 => 2 | 3 => 93 | 28 => 90 | 0 => 0 | 27 => 89 | 33 => 151 | 4 => 4 | n => n, fun | n => n⟩
theorem keysLays : Go.Proofs.SlLaysZI.n7 Tryz.prog keysLays_ren where
  mixed := by kernel_rfl
  f7 := ⟨ "maps.Keys[map[int64]*triglyph/typ.term,int64,*triglyph/typ.term]", by decide, Tryz.func57.trans (congrArg some (by kernel_rfl))⟩
  f10 := ⟨ "maps.Keys[map[int64]*triglyph/typ.term,int64,*triglyph/typ.term]$1", by decide, Tryz.func98.trans (congrArg some (by kernel_rfl))⟩
  t0 := Tryz.underlying0
  a0 := Tryz.isAgg0
  z0 := Tryz.sizeOf0
  v0 := Tryz.zeroValue0
  t4 := Tryz.underlying4
  a4 := Tryz.isAgg4
  z4 := Tryz.sizeOf4
  v4 := Tryz.zeroValue4
  t23 := Tryz.underlying92
  a23 := Tryz.isAgg92
  z23 := Tryz.sizeOf92
  v23 := Tryz.zeroValue92
  t26 := Tryz.underlying2
  a26 := Tryz.isAgg2
  z26 := Tryz.sizeOf2
  v26 := Tryz.zeroValue2
  t27 := Tryz.underlying89
  a27 := Tryz.isAgg89
  z27 := Tryz.sizeOf89
  v27 := Tryz.zeroValue89
  t28 := Tryz.underlying90
  a28 := Tryz.isAgg90
  z28 := Tryz.sizeOf90
  v28 := Tryz.zeroValue90
  t33 := Tryz.underlying151
  a33 := Tryz.isAgg151
  z33 := Tryz.sizeOf151
  v33 := Tryz.zeroValue151
def sortedLays_ren : Go.Shelf.Ren := ⟨fun | 6 => 56 | 8 => 96 | 9 => 97 | 11 => 123 | 13 => 125 | 12 => 124 | 23 => 153 | 24 => 154 | 14 => 144 | 15 => 145 | 16 => 146 | 17 => 147 | 18 => 148 | 19 => 149 | 20 => 150 | 21 => 151 | 22 => 152 | 25 => 166 | 26 => 167 | 27 => 168 | 28 => 169 | 29 => 170 | 30 => 171 | 31 => 177 | n => n, fun | 26 => 2 | 28 => 90 | 24 => 87 | 0 => 0 | 3 => 3 | 37 => 174 | 48 => 198 | 50 => 169 | 4 => 4 | 40 => 191 | 39 => 190 | 45 => 160 | 5 => 5 | 9 => 9 | 51 => 209 | 55 => 213 | 57 => 216 | 58 => 217 | 33 => 151 | n => n, fun | n => n⟩
theorem sortedLays : Go.Proofs.SlLaysZI.n6 Tryz.prog sortedLays_ren where
  mixed := by kernel_rfl
  f6 := ⟨ "slices.Sorted[int64]", by decide, Tryz.func56.trans (congrArg some (by kernel_rfl))⟩
  f8 := ⟨ "slices.Collect[int64]", by decide, Tryz.func96.trans (congrArg some (by kernel_rfl))⟩
  f11 := ⟨ "slices.AppendSeq[[]int64,int64]", by decide, Tryz.func123.trans (congrArg some (by kernel_rfl))⟩
  t0 := Tryz.underlying0
  a0 := Tryz.isAgg0
  z0 := Tryz.sizeOf0
  v0 := Tryz.zeroValue0
  t24 := Tryz.underlying87
  a24 := Tryz.isAgg87
  z24 := Tryz.sizeOf87
  v24 := Tryz.zeroValue87
  t26 := Tryz.underlying2
  a26 := Tryz.isAgg2
  z26 := Tryz.sizeOf2
  v26 := Tryz.zeroValue2
  t28 := Tryz.underlying90
  a28 := Tryz.isAgg90
  z28 := Tryz.sizeOf90
  v28 := Tryz.zeroValue90
  i26 := by kernel_rfl
def sortLays_ren : Go.Shelf.Ren := ⟨fun | 5 => 97 | 8 => 125 | 7 => 124 | 19 => 153 | 20 => 154 | 10 => 144 | 11 => 145 | 12 => 146 | 13 => 147 | 14 => 148 | 15 => 149 | 16 => 150 | 17 => 151 | 18 => 152 | 30 => 166 | 31 => 167 | 32 => 168 | 33 => 169 | 34 => 170 | 35 => 171 | 40 => 177 | n => n, fun | 23 => 87 | 25 => 2 | 3 => 3 | 32 => 174 | 22 => 87 | 0 => 0 | 44 => 198 | 46 => 169 | 4 => 4 | 36 => 191 | 35 => 190 | 41 => 160 | 5 => 5 | 9 => 9 | 53 => 209 | 57 => 213 | 63 => 216 | 64 => 217 | n => n, fun | n => n⟩
theorem sortLays : Go.Proofs.SlLaysM.n5 Tryz.prog sortLays_ren where
  mixed := by kernel_rfl
  f5 := ⟨ "slices.Sort[[]int64,int64]", by decide, Tryz.func97.trans (congrArg some (by kernel_rfl))⟩
  f7 := ⟨ "slices.pdqsortOrdered[int64]", by decide, Tryz.func124.trans (congrArg some (by kernel_rfl))⟩
  f8 := Tryz.func125.trans (congrArg some (by kernel_rfl))
  f10 := ⟨ "slices.insertionSortOrdered[int64]", by decide, Tryz.func144.trans (congrArg some (by kernel_rfl))⟩
  f11 := ⟨ "slices.heapSortOrdered[int64]", by decide, Tryz.func145.trans (congrArg some (by kernel_rfl))⟩
  f12 := ⟨ "slices.breakPatternsOrdered[int64]", by decide, Tryz.func146.trans (congrArg some (by kernel_rfl))⟩
  f13 := ⟨ "slices.choosePivotOrdered[int64]", by decide, Tryz.func147.trans (congrArg some (by kernel_rfl))⟩
  f14 := ⟨ "slices.reverseRangeOrdered[int64]", by decide, Tryz.func148.trans (congrArg some (by kernel_rfl))⟩
  f15 := ⟨ "slices.partialInsertionSortOrdered[int64]", by decide, Tryz.func149.trans (congrArg some (by kernel_rfl))⟩
  f16 := ⟨ "cmp.Less[int64]", by decide, Tryz.func150.trans (congrArg some (by kernel_rfl))⟩
  f17 := ⟨ "slices.partitionEqualOrdered[int64]", by decide, Tryz.func151.trans (congrArg some (by kernel_rfl))⟩
  f18 := ⟨ "slices.partitionOrdered[int64]", by decide, Tryz.func152.trans (congrArg some (by kernel_rfl))⟩
  f19 := Tryz.func153.trans (congrArg some (by kernel_rfl))
  f20 := Tryz.func154.trans (congrArg some (by kernel_rfl))
  f30 := ⟨ "slices.siftDownOrdered[int64]", by decide, Tryz.func166.trans (congrArg some (by kernel_rfl))⟩
  f31 := Tryz.func167.trans (congrArg some (by kernel_rfl))
  f32 := Tryz.func168.trans (congrArg some (by kernel_rfl))
  f33 := ⟨ "slices.medianAdjacentOrdered[int64]", by decide, Tryz.func169.trans (congrArg some (by kernel_rfl))⟩
  f34 := ⟨ "slices.medianOrdered[int64]", by decide, Tryz.func170.trans (congrArg some (by kernel_rfl))⟩
  f35 := ⟨ "cmp.isNaN[int64]", by decide, Tryz.func171.trans (congrArg some (by kernel_rfl))⟩
  f40 := ⟨ "slices.order2Ordered[int64]", by decide, Tryz.func177.trans (congrArg some (by kernel_rfl))⟩
  t0 := Tryz.underlying0
  a0 := Tryz.isAgg0
  z0 := Tryz.sizeOf0
  v0 := Tryz.zeroValue0
  t3 := Tryz.underlying3
  a3 := Tryz.isAgg3
  z3 := Tryz.sizeOf3
  v3 := Tryz.zeroValue3
  t4 := Tryz.underlying4
  a4 := Tryz.isAgg4
  z4 := Tryz.sizeOf4
  v4 := Tryz.zeroValue4
  t5 := Tryz.underlying5
  a5 := Tryz.isAgg5
  z5 := Tryz.sizeOf5
  v5 := Tryz.zeroValue5
  t9 := Tryz.underlying9
  a9 := Tryz.isAgg9
  z9 := Tryz.sizeOf9
  v9 := Tryz.zeroValue9
  t22 := Tryz.underlying87
  a22 := Tryz.isAgg87
  z22 := Tryz.sizeOf87
  v22 := Tryz.zeroValue87
  t23 := Tryz.underlying87
  a23 := Tryz.isAgg87
  z23 := Tryz.sizeOf87
  v23 := Tryz.zeroValue87
  t25 := Tryz.underlying2
  a25 := Tryz.isAgg2
  z25 := Tryz.sizeOf2
  v25 := Tryz.zeroValue2
  t32 := Tryz.underlying174
  a32 := Tryz.isAgg174
  z32 := Tryz.sizeOf174
  v32 := Tryz.zeroValue174
  t35 := Tryz.underlying190
  a35 := Tryz.isAgg190
  z35 := Tryz.sizeOf190
  v35 := Tryz.zeroValue190
  t36 := Tryz.underlying191
  a36 := Tryz.isAgg191
  z36 := Tryz.sizeOf191
  v36 := Tryz.zeroValue191
  t41 := Tryz.underlying160
  a41 := Tryz.isAgg160
  z41 := Tryz.sizeOf160
  v41 := Tryz.zeroValue160
  t44 := Tryz.underlying198
  a44 := Tryz.isAgg198
  z44 := Tryz.sizeOf198
  v44 := Tryz.zeroValue198
  t46 := Tryz.underlying169
  a46 := Tryz.isAgg169
  z46 := Tryz.sizeOf169
  v46 := Tryz.zeroValue169
  t53 := Tryz.underlying209
  a53 := Tryz.isAgg209
  z53 := Tryz.sizeOf209
  v53 := Tryz.zeroValue209
  t57 := Tryz.underlying213
  a57 := Tryz.isAgg213
  z57 := Tryz.sizeOf213
  v57 := Tryz.zeroValue213
  t63 := Tryz.underlying216
  a63 := Tryz.isAgg216
  z63 := Tryz.sizeOf216
  v63 := Tryz.zeroValue216
  t64 := Tryz.underlying217
  a64 := Tryz.isAgg217
  z64 := Tryz.sizeOf217
  v64 := Tryz.zeroValue217

theorem sorts_any (m : Nat) : AnyZI.SortsIn Tryz.prog sortedLays_ren Fence.wide m :=
  ⟨fun blk off cap ss W hH hblk hsz => callsIn_wide.2 (AnyM.slices_Sort_int sortLays blk off cap ss W hH hblk hsz), fun p cap W => callsIn_wide.2 (AnyM.slices_Sort_int_none sortLays p cap W)⟩
theorem keys_any (mb : Option Nat) (w : World) : Calls Tryz.prog 57 #[.map mb] w fun e w' => e = .returned (.func (.func 98) #[] #[.pointer (some ⟨w.heap.size, 0, none⟩)]) ∧ w' = w.alloc (.cells #[.map mb] 92) :=
  (callsIn_wide (n := 5)).1 (AnyZI.keys_in keysLays Fence.wide 5 trivial rfl mb w)
theorem sorted_any {H : Type} (b nn p : Nat) (D0 : DataW H) (R : Value → Option (DataW H × List MemPlace)) (w : World) (hown : w.ownsMap Tryz.prog 2 R b nn D0) (hmax : Maps.size D0 ≤ maxLen) (hbytes : Maps.size D0 * 8 ≤ 140737488355328) (hp : w.cell? ⟨p, 0, none⟩ = some (.map (some b))) (hpl : p < w.heap.size) :
    Calls Tryz.prog 56 #[.func (.func 98) #[] #[.pointer (some ⟨p, 0, none⟩)]] w fun e w' => ∃ (v : Value) (ss : List Int), e = .returned v ∧ ss.Perm (intKeys D0) ∧
      w'.ownsRow w.heap.size 2 1 v ss.length ((ss.mergeSort (fun x y => decide (x ≤ y))).map encZ) ∧ (v = .slice none 0 0 ↔ ss = []) ∧ Below w.heap.size w w' := by
  refine (callsIn_wide (n := 5)).1 ?_
  have hseq : SeqGives Fence.wide 2 Tryz.prog 98 #[.pointer (some ⟨p, 0, none⟩)] encZ (fun ss => ss.Perm (intKeys D0)) (Maps.size D0) w :=
    AnyZI.keys_gives (ρ := keysLays_ren) { keysLays with } Fence.wide _ trivial rfl (by omega) p b nn D0 w hpl hp hown
  have cS := AnyZI.sorted_in sortedLays Fence.wide 5 trivial trivial trivial trivial rfl (by omega) (sorts_any _) (enters_of Tryz.func97 (by kernel_rfl) rfl) 98 #[.pointer (some ⟨p, 0, none⟩)] trivial (enters_of Tryz.func98 (by kernel_rfl) rfl) _ _ hmax hbytes _ hseq
  change CallsIn _ _ Tryz.prog 56 _ _ _ at cS
  exact cS
end Go.Proofs.YtncifeeinogcnaaGreatDoor
/- Unify: what its bindings are. -/
set_option maxRecDepth 100000
namespace Go.Proofs.YtncifeeinogcnaaGreatDoor
open Go.RowKit Go.Lib Go.Maps Go.Proofs.TreeMath

theorem store_keys {w : World} {mb n : Nat} {D : DM} (hown : w.ownsMap Tryz.prog 2 PE mb n D) {ss : List Int} (hp : ss.Perm (intKeys D)) :
    (ss.mergeSort (fun x y => decide (x ≤ y))).Pairwise (· < ·) ∧ (∀ v, v ∈ ss.mergeSort (fun x y => decide (x ≤ y)) ↔ has D (kI v) = true) ∧ (ss.mergeSort (fun x y => decide (x ≤ y))).length = (intKeys D).length := by
  obtain ⟨es, hD, hpw, _⟩ := hown.entries law2
  obtain ⟨es', hD', hko⟩ := hown.keysOf
  obtain rfl : es = es' := by rw [hD] at hD'; simpa using hD'
  subst hD
  have hk : ∀ p ∈ es, ∃ x, p.1 = Lit.int .i64 x := fun p hp => by obtain ⟨v, hv⟩ := hko p hp; obtain ⟨x, _, hx, _⟩ := Maps.keyOf_i64 Tryz.underlying2 hv; exact ⟨x, hx⟩
  have hnd : (intKeys (.map es : DM)).Nodup := by
    show (es.map fun p => Go.intOf p.1).Nodup
    refine List.pairwise_map.2 (hpw.imp_of_mem fun {p q} hp' hq' hne e => hne ?_)
    obtain ⟨a, ha⟩ := hk p hp'
    obtain ⟨b, hb⟩ := hk q hq'
    rw [ha, hb] at e ⊢
    exact congrArg _ e
  have hmem : ∀ v, v ∈ intKeys (.map es : DM) ↔ has (.map es : DM) (kI v) = true := by
    intro v
    rw [has_eq, List.any_eq_true]
    show v ∈ es.map (fun p => Go.intOf p.1) ↔ _
    rw [List.mem_map]
    constructor
    · rintro ⟨p, hp', rfl⟩
      obtain ⟨a, ha⟩ := hk p hp'
      exact ⟨p, hp', by rw [ha]; simp [kI, Lit.sameKey, Go.intOf]⟩
    · rintro ⟨p, hp', hs⟩
      obtain ⟨a, ha⟩ := hk p hp'
      rw [ha] at hs
      exact ⟨p, hp', by rw [ha]; simpa [kI, Lit.sameKey, Go.intOf] using hs⟩
  have hperm := (List.mergeSort_perm ss (fun x y => decide (x ≤ y))).trans hp
  refine ⟨?_, fun v => (hperm.mem_iff).trans (hmem v), hperm.length_eq⟩
  have h1 : (ss.mergeSort (fun x y => decide (x ≤ y))).Pairwise (fun x y => decide (x ≤ y) = true) := List.pairwise_mergeSort (fun a b c h1 h2 => by simp only [decide_eq_true_eq] at *; omega) (fun a b => by simp only [Bool.or_eq_true, decide_eq_true_eq]; omega) ss
  have h2 : (ss.mergeSort (fun x y => decide (x ≤ y))).Pairwise (· ≠ ·) := (hperm.nodup_iff).2 hnd
  exact (h1.and h2).imp fun {a b} h => by
    have h3 := h.1
    have h4 := h.2
    simp only [decide_eq_true_eq] at h3
    omega
abbrev BT := Int × List Nd × Value
def btCells (bs : List BT) : List Value := bs.flatMap fun b => [.int .i64 b.1, b.2.2]
theorem length_btCells (bs : List BT) : (btCells bs).length = bs.length * 2 := by
  induction bs with
  | nil => rfl
  | cons b bs ih =>
    unfold btCells at ih ⊢
    rw [List.flatMap_cons, List.length_append, ih]
    simp; omega
theorem btCells_append (a b : List BT) : btCells (a ++ b) = btCells a ++ btCells b := by simp [btCells]
/-- Bindings of one's own. -/
def BG (B : Nat) (bs : List BT) (lv : Value) (w : World) : Prop := w.ownsRow B 40 2 lv bs.length (btCells bs) ∧ ∀ b ∈ bs, w.ownsRow B 58 4 b.2.2 b.2.1.length (nodeCells b.2.1)
theorem BG.nil (B : Nat) (w : World) : BG B [] (.slice none 0 0) w := ⟨World.ownsRow_nil _ _ _ _, fun _ h => absurd h (by simp)⟩
theorem BG.keep {B : Nat} {bs : List BT} {lv : Value} {w w' : World} (h : BG B bs lv w) (k : ∀ g cur T, B ≤ g → w.heap[g]? = some (.cells cur T (0, 0)) → T = 40 ∨ T = 58 → w'.heap[g]? = w.heap[g]?) : BG B bs lv w' := by
  refine ⟨World.ownsRow.keep h.1 fun g hg => ?_, fun b hb => World.ownsRow.keep (h.2 b hb) fun g hg => ?_⟩
  · obtain ⟨cur, hc⟩ := row_ty h.1 hg
    exact k g cur 40 (World.ownsRow.there h.1 hg).1 hc (.inl rfl)
  · obtain ⟨cur, hc⟩ := row_ty (h.2 b hb) hg
    exact k g cur 58 (World.ownsRow.there (h.2 b hb) hg).1 hc (.inr rfl)
/-- One binding is appended. -/
theorem BG.more {B : Nat} {bs : List BT} {lv nv : Value} {w w1 w2 : World} (h : BG B bs lv w) (b1 : Below w.heap.size w w1) (g : w1.grownBy w2 lv.ownBlock) (b : BT) (ho : w.ownsRow B 58 4 b.2.2 b.2.1.length (nodeCells b.2.1))
    (hn : w2.ownsRow B 40 2 nv (bs.length + 1) (btCells bs ++ [.int .i64 b.1, b.2.2])) : BG B (bs ++ [b]) nv w2 := by
  have kp : ∀ {v : Value} {n : Nat} {xs : List Value}, w.ownsRow B 58 4 v n xs → w2.ownsRow B 58 4 v n xs := fun {v n xs} hr => by
    refine World.ownsRow.keep hr fun k hk => ?_
    have hlt := (World.ownsRow.there hr hk).2
    refine (g.block k (Nat.lt_of_lt_of_le hlt b1.size) fun e => ?_).trans (b1.block k hlt)
    obtain ⟨cur, hc⟩ := row_ty hr hk
    obtain ⟨cur2, hc2⟩ := row_ty h.1 e.symm
    rw [hc] at hc2
    simp at hc2
  refine ⟨?_, fun c hc => ?_⟩
  · rw [List.length_append, btCells_append]
    exact hn
  · rcases List.mem_append.1 hc with hc | hc
    · exact kp (h.2 c hc)
    · rw [List.mem_singleton] at hc; subst hc; exact kp ho
noncomputable def bind1 (s : Int → T) (k : Int) : List (Int × List Nd) := by classical exact if s k = vT k then [] else [(k, flatT (s k))]
noncomputable def bindsOf (s : Int → T) (ks : List Int) : List (Int × List Nd) := ks.flatMap (bind1 s)
theorem bind1_self {s : Int → T} {k : Int} (h : s k = vT k) : bind1 s k = [] := by unfold bind1; rw [if_pos h]
theorem bind1_more {s : Int → T} {k : Int} (h : s k ≠ vT k) : bind1 s k = [(k, flatT (s k))] := by unfold bind1; rw [if_neg h]
theorem bindsOf_take (s : Int → T) (ks : List Int) (i : Nat) (hi : i < ks.length) : bindsOf s (ks.take (i + 1)) = bindsOf s (ks.take i) ++ bind1 s (ks.getD i 0) := by
  unfold bindsOf
  rw [List.take_succ_eq_append_getElem hi, List.getD_eq_getElem?_getD, List.getElem?_eq_getElem hi, List.flatMap_append, List.flatMap_cons, List.flatMap_nil, List.append_nil]
  rfl
def prs (bs : List BT) : List (Int × List Nd) := bs.map fun b => (b.1, b.2.1)
/-- What Unify comes to. -/
inductive UyP (la lb : List Nd) (w : World) (e : Ending) (w' : World) : Prop
  | form (hb : tyB la = false ∨ tyB lb = false) (he : e = .returned (.tuple #[.slice none 0 0, .int .i64 90])) (b : Below w.heap.size w w')
  | clash (na nb : Nd) (ka kb : F) (ea : la = na :: ka.flat) (eb : lb = nb :: kb.flat) (oa : okF (.cons na ka .nil)) (ob : okF (.cons nb kb .nil)) (he : e = .returned (.tuple #[.slice none 0 0, .int .i64 91])) (hn : ∀ s, ¬ Un [((na, ka), (nb, kb))] s) (b : Below w.heap.size w w')
  | great (na nb : Nd) (ka kb : F) (ea : la = na :: ka.flat) (eb : lb = nb :: kb.flat) (oa : okF (.cons na ka .nil)) (ob : okF (.cons nb kb .nil)) (he : e = .returned (.tuple #[.slice none 0 0, .int .i64 92])) (s : Int → T) (hs : Mgu [((na, ka), (nb, kb))] s) (v : Int) (hv : 4000 < szT (s v)) (b : Below w.heap.size w w')
  | ok (na nb : Nd) (ka kb : F) (ea : la = na :: ka.flat) (eb : lb = nb :: kb.flat) (oa : okF (.cons na ka .nil)) (ob : okF (.cons nb kb .nil)) (s : Int → T) (hs : Mgu [((na, ka), (nb, kb))] s) (ks : List Int) (hp : ks.Pairwise (· < ·)) (hk : ∀ v, s v ≠ vT v → v ∈ ks) (kr : ∀ v ∈ ks, 0 ≤ v ∧ v ≤ 1048576)
      (hl : ∀ v, szT (s v) ≤ 4000) (bs : List BT) (lv : Value) (hb : prs bs = bindsOf s ks) (hc : ks.length ≤ 8000) (he : e = .returned (.tuple #[lv, .int .i64 0])) (g : BG w.heap.size bs lv w') (b : Below w.heap.size w w')
end Go.Proofs.YtncifeeinogcnaaGreatDoor
/- Unify: what its loop keeps. -/
set_option maxRecDepth 100000
namespace Go.Proofs.YtncifeeinogcnaaGreatDoor
open Go.RowKit Go.Lib Go.Maps Go.Proofs.TreeMath

/-- What a look-up of a variable that was met gives. -/
theorem ST.look1 {B : Nat} {w : World} {S : SS} {tr : Nat → T} {es : List (T × T)} {sb mb n : Nat} {D : DM} {nx mrk : Int} (h : ST B w S tr es sb mb n D nx mrk) (v : Int) (hh : has D (kI v) = true) (h0 : 0 ≤ v) (h1 : v ≤ 1048576) :
    ∃ x ∈ S.dom, S.node x = vN v ∧ (Instr.lookup 92 (.map (some mb)) (.int .i64 v) false).run Tryz.prog w = .ok (.pointer (some ⟨x, 0, none⟩)) w := by
  obtain ⟨u, ps, hr, hu⟩ := h.map.lookup law2 Tryz.underlying92 (zero79 w) (zd := .nil) (zp := []) rfl (key2 v (by omega) (by omega))
  obtain ⟨x, hx, hn⟩ := h.only v hh
  have hk := (h.key x hx (by rw [hn]; rfl)).2
  rw [hn] at hk
  rw [show D.atKey (kI v) .nil = _ from hk] at hu
  obtain rfl := PE_inv hu
  exact ⟨x, hx, hn, hr⟩
structure UI (B : Nat) (w : World) (S : SS) (tr : Nat → T) (es : List (T × T)) (sb mb m : Nat) (D : DM) (nx mrk : Int) (s : Int → T) (ks : List Int) (kv : Value) (i : Nat) (bs : List BT) (lv : Value) (wr : World) : Prop where
  st : ST wr.heap.size wr S tr es sb mb m D nx mrk
  row : wr.ownsRow B 2 1 kv ks.length (ks.map encZ)
  bg : BG B bs lv wr
  eq : prs bs = bindsOf s (ks.take i)
  len : bs.length ≤ i
  sm : ∀ j, j < i → szT (s (ks.getD j 0)) ≤ 4000
  be : Below B w wr
  new : ∀ x ∈ S.dom, B ≤ x
  bw : B ≤ wr.heap.size
section
variable {B : Nat} {w : World} {S : SS} {tr : Nat → T} {es : List (T × T)} {sb mb m : Nat} {D : DM} {nx mrk : Int} {s : Int → T} {ks : List Int} {kv : Value} {i : Nat} {bs : List BT} {lv : Value} {wr : World}
theorem UI.frm (h : UI B w S tr es sb mb m D nx mrk s ks kv i bs lv wr) {w2 : World} (f : Frm S.D wr.heap.size wr w2) (tw : TW wr.heap.size w2 S) : UI B w S tr es sb mb m D nx mrk s ks kv i bs lv w2 := by
  have oth : ∀ (g : Nat) (cur : Array Value) (T0 : TypeId), wr.heap[g]? = some (.cells cur T0 (0, 0)) → T0 ≠ 136 → w2.heap[g]? = wr.heap[g]? := fun g cur T0 hg ht => by
    refine f.block g (Array.getElem?_eq_some_iff.1 hg).1 fun hd => ?_
    obtain ⟨_, cs, hc⟩ := h.st.tw.blk hd
    rw [hg] at hc
    simp only [Option.some.injEq, Obj.cells.injEq] at hc
    exact ht hc.2.1
  refine ⟨(h.st.frmD f tw).raise f.size (Nat.le_refl _), World.ownsRow.keep h.row fun g hg => ?_, h.bg.keep fun g cur T0 _ hg ht => oth g cur T0 hg (by rcases ht with rfl | rfl <;> decide), h.eq, h.len, h.sm, h.be.trans (f.below h.bw fun k hk hd => by have := h.new k hd; omega), h.new, Nat.le_trans h.bw f.size⟩
  obtain ⟨cur, hc⟩ := row_ty h.row hg
  exact oth g cur 2 hc (by decide)
theorem UI.below (h : UI B w S tr es sb mb m D nx mrk s ks kv i bs lv wr) {w2 : World} (b : Below wr.heap.size wr w2) : UI B w S tr es sb mb m D nx mrk s ks kv i bs lv w2 := h.frm (Frm.of_below b) (h.st.tw.below b)
/-- A variable that stands for itself. -/
theorem UI.skip (h : UI B w S tr es sb mb m D nx mrk s ks kv i bs lv wr) (hi : i < ks.length) (he : s (ks.getD i 0) = vT (ks.getD i 0)) : UI B w S tr es sb mb m D nx mrk s ks kv (i + 1) bs lv wr := by
  refine ⟨h.st, h.row, h.bg, by rw [bindsOf_take s ks i hi, bind1_self he, List.append_nil]; exact h.eq, by have := h.len; omega, fun j hj => ?_, h.be, h.new, h.bw⟩
  by_cases e : j = i
  · subst e; rw [he]; simp [szT, vT, F.sz]
  · exact h.sm j (by omega)
/-- One more binding. -/
theorem UI.more (h : UI B w S tr es sb mb m D nx mrk s ks kv i bs lv wr) (hi : i < ks.length) (he : s (ks.getD i 0) ≠ vT (ks.getD i 0)) (hs : szT (s (ks.getD i 0)) ≤ 4000) {w1 w2 : World} (b1 : Below wr.heap.size wr w1) (g : w1.grownBy w2 lv.ownBlock) {nv tv : Value}
    (ho : wr.ownsRow B 58 4 tv (flatT (s (ks.getD i 0))).length (nodeCells (flatT (s (ks.getD i 0))))) (hn : w2.ownsRow B 40 2 nv (bs.length + 1) (btCells bs ++ [.int .i64 (ks.getD i 0), tv])) :
    UI B w S tr es sb mb m D nx mrk s ks kv (i + 1) (bs ++ [(ks.getD i 0, flatT (s (ks.getD i 0)), tv)]) nv w2 := by
  have hz : wr.heap.size ≤ w2.heap.size := Nat.le_trans b1.size g.size
  have kp : ∀ (k : Nat) (cur : Array Value) (T0 : TypeId), wr.heap[k]? = some (.cells cur T0 (0, 0)) → T0 ≠ 40 → w2.heap[k]? = wr.heap[k]? := fun k cur T0 hk ht => by
    have hlt := (Array.getElem?_eq_some_iff.1 hk).1
    refine (g.block k (Nat.lt_of_lt_of_le hlt b1.size) fun e => ?_).trans (b1.block k hlt)
    obtain ⟨cur2, hc2⟩ := row_ty h.bg.1 e.symm
    rw [hk] at hc2
    simp only [Option.some.injEq, Obj.cells.injEq] at hc2
    exact ht hc2.2.1
  have stw : ST wr.heap.size w2 S tr es sb mb m D nx mrk := by
    refine h.st.other hz fun k hk hc => ?_
    rcases hc with hd | rfl | rfl | ⟨x, hx, hr, hg2⟩
    · obtain ⟨_, cs, hc⟩ := h.st.tw.blk hd
      exact kp k cs 136 hc (by decide)
    · exact kp k _ 95 h.st.sbk (by decide)
    · refine (g.block k (Nat.lt_of_lt_of_le h.st.map.lt b1.size) fun e => ?_).trans (b1.block k h.st.map.lt)
      obtain ⟨cur2, hc2⟩ := row_ty h.bg.1 e.symm
      exact map_ne h.st.map hc2 rfl
    · obtain ⟨_, cur, hc⟩ := row_lt h.st hx hr hg2
      exact kp k cur 93 hc (by decide)
  refine ⟨stw.raise hz (Nat.le_refl _), World.ownsRow.keep h.row fun k hk => ?_, h.bg.more b1 g (ks.getD i 0, flatT (s (ks.getD i 0)), tv) ho hn, ?_, by rw [List.length_append, List.length_singleton]; have := h.len; omega, fun j hj => ?_, ?_, h.new, Nat.le_trans h.bw hz⟩
  · obtain ⟨cur, hc⟩ := row_ty h.row hk
    exact kp k cur 2 hc (by decide)
  · rw [bindsOf_take s ks i hi, bind1_more he, ← h.eq]
    simp [prs]
  · by_cases e : j = i
    · subst e; exact hs
    · exact h.sm j (by omega)
  · exact (h.be.trans (b1.mono h.bw)).grown g (Nat.le_trans h.bw b1.size) fun k e => (World.ownsRow.there h.bg.1 e).1
end
end Go.Proofs.YtncifeeinogcnaaGreatDoor
