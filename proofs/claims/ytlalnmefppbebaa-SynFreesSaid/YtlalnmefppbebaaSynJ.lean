/- bind, and the function that it returns. -/
import Derived.Test.YtlalnmefppbebaaSynI
namespace Go.Proofs.Ytlalnmefppbebaa
open Go.RowKit Go.Maps Go.Proofs.TreeMath
/-- While names are bound. -/
structure Bd (w : World) (nb tb bm fb rb nB : Nat) (lv : Value) (B : ByteArray → Bool) (names : List ByteArray) (fv : Value) (fr : List ByteArray) (wr : World) : Prop where
  fresh : wr.heap[fb]? = some (.cells #[fv] 31 (0, 0))
  row : SRow w.heap.size wr fv fr
  box : wr.heap[rb]? = some (fdObj lv nb tb bm)
  set : SetAt wr bm nB (fun s => B s || inB s names)
  sep : ∀ s, ((B s || inB s names) && !inB s fr) = B s
  sub : ∀ s ∈ fr, s ∈ names
  len : fr.length ≤ names.length
  grown : w.grownBy wr (some bm)
theorem keep_alloc {w wr : World} {r : Option Nat} (h : w.grownBy wr r) (o : Obj) : w.grownBy (wr.alloc o) r := h.trans (World.grownBy_alloc _ _ _)
theorem grown_mono {w w' : World} {r : Option Nat} (h : w.grownBy w' none) : w.grownBy w' r := ⟨h.os, h.tape, h.output, h.size, fun k hk _ => h.block k hk (by simp)⟩
theorem row_cells {base : Nat} {w : World} {v : Value} {acc : List ByteArray} {k : Nat} (h : SRow base w v acc) (hk : v.ownBlock = some k) : ∃ cur, w.heap[k]? = some (.cells cur 9 (0, 0)) := by
  rcases h.2 with ⟨rfl, _⟩ | ⟨g', cap, cur, rfl, _, hg', _⟩
  · cases hk
  · simp [Value.ownBlock] at hk
    subst hk
    exact ⟨cur, hg'⟩
theorem take_str (names : List ByteArray) (j : Nat) (h : j < names.length) : names.take (j + 1) = names.take j ++ [names.getD j default] := by
  rw [List.take_succ_eq_append_getElem h, List.getD_eq_getElem?_getD, List.getElem?_eq_getElem h]
  rfl
theorem Bd.seen {w wr : World} {nb tb bm fb rb nB : Nat} {lv fv : Value} {B : ByteArray → Bool} {names fr : List ByteArray} {t : ByteArray} (h : Bd w nb tb bm fb rb nB lv B names fv fr wr) (o : Obj) (ht : (B t || inB t names) = true) : Bd w nb tb bm fb rb (nB + 1) lv B (names ++ [t]) fv fr (wr.alloc o) := by
  have e : ∀ s, (B s || inB s (names ++ [t])) = (B s || inB s names) := by
    intro s
    rw [inB_append, inB_one]
    by_cases hs : t = s
    · subst hs
      rw [ht]
      cases hB : B t
      · rw [hB, Bool.false_or] at ht
        simp [ht]
      · simp
    · simp [hs]
  refine ⟨?_, h.row.after ((Below.refl _ _).alloc (Nat.le_refl _) _), ?_, ?_, fun s => by rw [e]; exact h.sep s, fun s hs => List.mem_append_left _ (h.sub s hs), by have := h.len; simp; omega, keep_alloc h.grown o⟩
  · rw [Below.heap_alloc _ _ _ (lt_of_heap h.fresh)]; exact h.fresh
  · rw [Below.heap_alloc _ _ _ (lt_of_heap h.box)]; exact h.box
  · obtain ⟨D, h1, h2⟩ := h.set
    exact ⟨D, (h1.alloc o).mono (Nat.le_succ _), fun s => (h2 s).trans (e s).symm⟩
theorem Bd.added {w wr w1 w3 : World} {nb tb bm fb rb nB : Nat} {lv fv fv' : Value} {B : ByteArray → Bool} {names fr : List ByteArray} {t : ByteArray} {o1 o2 : Obj} (h : Bd w nb tb bm fb rb nB lv B names fv fr wr) (hfb : w.heap.size ≤ fb) (hrb : w.heap.size ≤ rb) (hbm : bm < w.heap.size) (ht : (B t || inB t names) = false)
    (hg1 : (wr.alloc o1).grownBy w1 (some bm)) (hm : SetAt w1 bm (nB + 1) (fun x => B x || inB x (names ++ [t]))) (hg3 : (w1.alloc o2).grownBy w3 fv.ownBlock) (hrow : w3.ownsRow w.heap.size 9 1 fv' (fr.length + 1) (strCells fr ++ [.string t]))
    (hloc : fv'.ownBlock = fv.ownBlock ∨ fv'.ownBlock = some (w1.alloc o2).heap.size) :
    Bd w nb tb bm fb rb (nB + 1) lv B (names ++ [t]) fv' (fr ++ [t]) (w3.setCell ⟨fb, 0, none⟩ fv') := by
  have s0 := h.grown.size
  have s1 := hg1.size
  have s3 := hg3.size
  simp at s1 s3
  have rowlt : ∀ g, fv.ownBlock = some g → w.heap.size ≤ g ∧ g < wr.heap.size := fun g hg => World.ownsRow.there h.row hg
  have row9 : ∀ g, fv.ownBlock = some g → g ≠ fb ∧ g ≠ rb := by
    intro g hg
    have hc : ∃ cur, wr.heap[g]? = some (.cells cur 9 (0, 0)) := by
      rcases h.row.2 with ⟨rfl, _⟩ | ⟨g', cap, cur, rfl, _, hg', _⟩
      · cases hg
      · simp [Value.ownBlock] at hg
        subst hg
        exact ⟨cur, hg'⟩
    obtain ⟨cur, hc⟩ := hc
    constructor
    · rintro rfl
      rw [h.fresh] at hc
      simp at hc
    · rintro rfl
      rw [h.box] at hc
      simp [fdObj] at hc
  have K1 : ∀ i, i < w1.heap.size → fv.ownBlock ≠ some i → w3.heap[i]? = w1.heap[i]? := fun i hi hn =>
    (hg3.block i (by simp; omega) (fun e => hn e.symm)).trans (Below.heap_alloc _ _ _ hi)
  have K : ∀ i, i < wr.heap.size → i ≠ bm → fv.ownBlock ≠ some i → w3.heap[i]? = wr.heap[i]? := fun i hi h1 h2 =>
    (K1 i (by omega) h2).trans ((hg1.block i (by simp; omega) (fun e => h1 (Option.some.inj e))).trans (Below.heap_alloc _ _ _ hi))
  have SC : ∀ i, i ≠ fb → (w3.setCell ⟨fb, 0, none⟩ fv').heap[i]? = w3.heap[i]? := fun i hi => Below.heap_setCell _ _ _ _ hi
  have hfr : inB t fr = false := by
    cases hi : inB t fr with
    | false => rfl
    | true =>
      have := inB_iff.2 (h.sub t (inB_iff.1 hi))
      rw [this] at ht
      simp at ht
  refine ⟨?_, ?_, ?_, ?_, ?_, ?_, by have := h.len; simp; omega, ?_⟩
  · have hN : w3.heap[fb]? = some (.cells #[fv] 31 (0, 0)) := (K fb (lt_of_heap h.fresh) (by omega) (fun e => (row9 fb e).1 rfl)).trans h.fresh
    simp [World.setCell, Array.getElem?_modify, hN]
  · unfold SRow
    rw [List.length_append, strCells_append]
    refine World.ownsRow.keep hrow fun g hg => SC g ?_
    rintro rfl
    rcases hloc with e | e
    · rw [e] at hg; exact (row9 _ hg).1 rfl
    · rw [e] at hg
      have := lt_of_heap h.fresh
      simp at hg
      omega
  · by_cases hne : rb = fb
    · subst hne
      have a := h.fresh
      rw [h.box] at a
      simp [fdObj] at a
    · rw [SC rb hne, K rb (lt_of_heap h.box) (by omega) (fun e => (row9 rb e).2 rfl)]
      exact h.box
  · refine hm.of_block ?_
    rw [SC bm (by omega), K1 bm hm.lt (fun e => by have := (rowlt _ e).1; omega)]
  · intro s
    have hs := h.sep s
    rw [inB_append, inB_append, inB_one]
    by_cases e : t = s
    · subst e
      have hB : B t = false := by
        cases hb : B t with
        | false => rfl
        | true => rw [hb] at ht; simp at ht
      simp [hB]
    · simpa [e] using hs
  · intro s hs
    rcases List.mem_append.1 hs with hs | hs
    · exact List.mem_append_left _ (h.sub s hs)
    · exact List.mem_append_right _ hs
  · refine ⟨?_, ?_, ?_, ?_, ?_⟩
    · exact (hg3.os.trans hg1.os).trans h.grown.os
    · exact (hg3.tape.trans hg1.tape).trans h.grown.tape
    · exact (hg3.output.trans hg1.output).trans h.grown.output
    · simp [World.setCell]; omega
    · intro i hi hne
      rw [SC i (by omega), K i (by omega) (fun e => hne (by rw [e])) (fun e => by have := (rowlt _ e).1; omega)]
      exact h.grown.block i hi hne
theorem call86 (vs : Array Value) (w : World) : (callFunc 86 vs).run Try.prog w = .ok (.enter 86 vs) w := run_callFunc Try.func86 (by kernel_rfl) (by kernel_rfl) vs w
set_option maxRecDepth 100000 in
set_option maxHeartbeats 2000000 in
/-- What was bound is let go. -/
theorem release_any (fb rb nb tb bm nB : Nat) (lv fv : Value) (B : ByteArray → Bool) (fr : List ByteArray) (w : World) (hf : w.heap[fb]? = some (.cells #[fv] 31 (0, 0))) (hr : w.heap[rb]? = some (fdObj lv nb tb bm)) (hfr : StrsAt w fv fr) (hset : SetAt w bm nB B) (hs : ∀ s ∈ fr, s.size ≤ 300) (hn : fr.length ≤ 100000) :
    Calls Try.prog 86 #[.pointer (some ⟨fb, 0, none⟩), .pointer (some ⟨rb, 0, none⟩)] w fun e w' => e = .returned (.tuple #[]) ∧ SetAt w' bm nB (fun s => B s && !inB s fr) ∧ w.grownBy w' (some bm) := by
  obtain ⟨_, p, c, rfl, hnc, _, hp⟩ := hfr
  have cf := Lib.cell_of_heap hf 0
  simp only [List.getElem?_toArray, List.getElem?_cons_zero] at cf
  have hneb : rb ≠ bm := by
    rintro rfl
    obtain ⟨es, cl, ho⟩ := hset.obj
    rw [hr] at ho
    simp [fdObj] at ho
  have hrl := lt_of_heap hr
  have HR := Lib.hid hr
  have HP := Lib.hid hp
  have HSET := Lib.hid hset
  have HS := Lib.hid hs
  obtain ⟨n, hnl⟩ : ∃ n, n = fr.length := ⟨_, rfl⟩
  rw [← hnl] at cf hn hnc HP
  have HNL := Lib.hid hnl
  clear hf hr hp hset hs hnl
  go_enter Try.func86, Try.ntmps86
  go_wp2
  go_loopw [6] (fun s6 wr => ∃ j : Nat, j ≤ n ∧ s6 = .int .i64 (j : Int) ∧ SetAt wr bm nB (fun s => B s && !inB s (fr.take j)) ∧ w.grownBy wr (some bm)) (fun s6 _ => n - (intOf s6).toNat)
  case atStart =>
    obtain ⟨D, h1, h2⟩ := HSET.out
    exact ⟨0, Nat.zero_le _, rfl, ⟨D, h1, fun s => by rw [h2]; simp [inB]⟩, ⟨rfl, rfl, rfl, Nat.le_refl _, fun _ _ _ => rfl⟩⟩
  case round =>
    obtain ⟨wo, hwo⟩ : ∃ wo : World, wo = wr := ⟨_, rfl⟩
    subst hwo
    obtain ⟨j, hj, rfl, hset, hgr⟩ := hrel
    have GR := Lib.hid hgr
    have ST := Lib.hid hset
    by_cases hlt : j < n
    · obtain ⟨b, off, rfl, hb, hc⟩ := HP.out (by omega)
      have hjl : j < fr.length := by rw [← HNL.out]; exact hlt
      have hbb : b ≠ bm := by
        rintro rfl
        obtain ⟨es, cl, ho⟩ := HSET.out.obj
        have := hc.str j hjl
        simp [World.cell?, ho] at this
      have c0 := (hc.kept (hgr.block b hb (fun e => hbb (Option.some.inj e)))).str j hjl
      have hbox := (hgr.block rb hrl (fun e => hneb (Option.some.inj e))).trans HR.out
      have c1 := Lib.cell_of_heap hbox 1
      simp only [List.getElem?_toArray, List.getElem?_cons_succ, List.getElem?_cons_zero] at c1
      have TK := Lib.hid (take_str fr j hjl)
      have hts := HS.out _ (show fr.getD j default ∈ fr by rw [List.getD_eq_getElem?_getD, List.getElem?_eq_getElem hjl]; exact List.getElem_mem hjl)
      obtain ⟨t, ht⟩ : ∃ t, t = fr.getD j default := ⟨_, rfl⟩
      rw [← ht] at c0 TK hts
      have hkey := Lib.hid (keyS t hts)
      obtain ⟨D, hown, hhas⟩ := hset
      have OWN := Lib.hid hown
      have HH := Lib.hid hhas
      have hltz : ((j : Int) < (n : Int)) := by omega
      clear ht hts hjl hbb hbox hown hhas hc hgr
      go_wp2_with (first
        | (at_delete; refine wpList_delete_own _ rfl _ _ 55 9 rfl 56 law9 Try.underlying55 (unitElem (H := Unit)) bm nB D rfl OWN.out _ _ rfl hkey.out ?_; intro w1 hown1 hturn1; have OWN1 := Lib.hid hown1; have HT := Lib.hid hturn1; clear hown1 hturn1)
        | go_in)
      go_roundw
      case rel => exact ⟨j + 1, hlt, by go_num, ⟨_, OWN1.out, fun s => by rw [set_del HH.out t s]; show _ = (B s && !inB s (fr.take (j + 1))); rw [TK.out, inB_append, inB_one]; cases B s <;> cases inB s (fr.take j) <;> simp⟩, GR.out.trans HT.out.grown⟩
      case measure => simp [intOf]; omega
    · obtain rfl : j = n := by omega
      go_wp2
      go_end0
      refine ⟨rfl, ?_, GR.out⟩
      have := ST.out
      rwa [List.take_of_length_le (by rw [← HNL.out]; exact Nat.le_refl _)] at this
/-- What bind leaves behind. -/
def BRet (nb tb bm nB : Nat) (lv : Value) (B : ByteArray → Bool) (names : List ByteArray) (w : World) (e : Ending) (w' : World) : Prop :=
  ∃ (fv : Value) (fr : List ByteArray), e = .returned (.func (.func 86) #[] #[.pointer (some ⟨w.heap.size + 1, 0, none⟩), .pointer (some ⟨w.heap.size, 0, none⟩)]) ∧ Bd w nb tb bm (w.heap.size + 1) w.heap.size nB lv B names fv fr w'
theorem bd_start (w : World) (nb tb bm nB : Nat) (lv : Value) (B : ByteArray → Bool) (h : SetAt w bm nB B) : Bd w nb tb bm (w.heap.size + 1) w.heap.size nB lv B [] (.slice none 0 0) [] ((w.alloc (fdObj lv nb tb bm)).alloc (.cells #[.slice none 0 0] 31)) := by
  refine ⟨?_, SRow.nil _ _, ?_, ?_, fun s => by simp [inB], fun s hs => by simp at hs, Nat.le_refl _, keep_alloc (World.grownBy_alloc _ _ _) _⟩
  · show ((w.heap.push _).push _)[w.heap.size + 1]? = _
    rw [Array.getElem?_push]
    simp
  · show ((w.heap.push _).push _)[w.heap.size]? = _
    rw [Array.getElem?_push_lt (by simp)]
    simp [fdObj]
  · obtain ⟨D, h1, h2⟩ := h
    exact ⟨D, (h1.alloc _).alloc _, fun s => by rw [h2]; simp [inB]⟩
set_option maxRecDepth 100000 in
set_option maxHeartbeats 4000000 in
theorem bind_any (nb tb bm nB : Nat) (B : ByteArray → Bool) (q : Option Addr) (m mc : Nat) (nv : Value) (names : List ByteArray) (w : World) (hset : SetAt w bm nB B) (hn : StrsAt w nv names) (hs : ∀ s ∈ names, s.size ≤ 300) (hl : names.length ≤ 100000) (hB : nB ≤ 100000000) :
    Calls Try.prog 69 #[fdV (.slice q m mc) nb tb bm, nv] w (BRet nb tb bm (nB + names.length) (.slice q m mc) B names w) := by
  obtain ⟨_, p, c, rfl, hnc, _, hp⟩ := hn
  obtain ⟨i0, hi0, hz0, hz1, hz2⟩ := infoStr
  have HI := Lib.hid (And.intro hi0 (And.intro hz0 (And.intro hz1 hz2)))
  clear hi0 hz0 hz1 hz2
  obtain ⟨n, hnl⟩ : ∃ n, n = names.length := ⟨_, rfl⟩
  rw [← hnl] at hl hnc hp ⊢
  have HNL := Lib.hid hnl
  have HP := Lib.hid hp
  have HSET := Lib.hid hset
  have HS := Lib.hid hs
  have ST0 := Lib.hid (bd_start w nb tb bm nB (.slice q m mc) B hset)
  have hbm : bm < w.heap.size := hset.lt
  clear hnl hp hset hs
  unfold fdV
  go_enter Try.func69, Try.ntmps69
  go_wp2
  go_loopw [12] (fun s12 wr => ∃ (j : Nat) (fv : Value) (fr : List ByteArray), j ≤ n ∧ s12 = .int .i64 (j : Int) ∧ Bd w nb tb bm (w.heap.size + 1) w.heap.size (nB + j) (.slice q m mc) B (names.take j) fv fr wr) (fun s12 _ => n - (intOf s12).toNat)
  case atStart => exact ⟨0, _, _, Nat.zero_le _, rfl, ST0.out⟩
  case round =>
    obtain ⟨wo, hwo⟩ : ∃ wo : World, wo = wr := ⟨_, rfl⟩
    subst hwo
    obtain ⟨j, fv, fr, hj, rfl, hbd⟩ := hrel
    have BD := Lib.hid hbd
    by_cases hlt : j < n
    · obtain ⟨b, off, rfl, hb, hc⟩ := HP.out (by omega)
      have hjl : j < names.length := by rw [← HNL.out]; exact hlt
      have hbb : b ≠ bm := by
        rintro rfl
        obtain ⟨es, cl, ho⟩ := HSET.out.obj
        have := hc.str j hjl
        simp [World.cell?, ho] at this
      have c0 := (hc.kept (hbd.grown.block b hb (fun e => hbb (Option.some.inj e)))).str j hjl
      have c1 := Lib.cell_of_heap hbd.box 1
      simp only [List.getElem?_toArray, List.getElem?_cons_succ, List.getElem?_cons_zero] at c1
      have TK := Lib.hid (take_str names j hjl)
      have hts := HS.out _ (show names.getD j default ∈ names by rw [List.getD_eq_getElem?_getD, List.getElem?_eq_getElem hjl]; exact List.getElem_mem hjl)
      obtain ⟨t, ht⟩ : ∃ t, t = names.getD j default := ⟨_, rfl⟩
      rw [← ht] at c0 TK hts
      have hkey := Lib.hid (keyS t hts)
      obtain ⟨D, hown, hhas⟩ := hbd.set
      have OWN := Lib.hid hown
      have HH := Lib.hid hhas
      have hltz : ((j : Int) < (n : Int)) := by omega
      have hrbl := lt_of_heap hbd.box
      have hfbl := lt_of_heap hbd.fresh
      clear ht hts hjl hbb hown hc
      cases hy : (B t || inB t (names.take j)) with
      | true =>
        have hd : Maps.has D (litS t) = true := (hhas t).trans hy
        have SEEN := Lib.hid (fun o => hbd.seen o hy)
        rw [← TK.out] at SEEN
        clear hhas hy hbd
        go_wp2_with (first
          | (at_lookup; refine wpList_lookup_own_unit _ rfl _ _ 55 rfl 9 56 law9 Try.underlying55 (zero56 _) bm (nB + j) D rfl OWN.out _ _ rfl hkey.out ?_; rw [hd])
          | go_in)
        exact ⟨⟨j + 1, fv, fr, hlt, by go_num, SEEN.out _⟩, by simp [intOf]; omega⟩
      | false =>
        have hd : Maps.has D (litS t) = false := (hhas t).trans hy
        have HY := Lib.hid hy
        have LEN : Hid (fr.length ≤ 100000) := Lib.hid (by have := hbd.len; rw [List.length_take] at this; omega)
        have f0 := hbd.fresh
        clear hhas hy hbd
        have hfne : w.heap.size + 1 ≠ bm := by omega
        go_wp2_with (first
          | (at_lookup; refine wpList_lookup_own_unit _ rfl _ _ 55 rfl 9 56 law9 Try.underlying55 (zero56 _) bm (nB + j) D rfl OWN.out _ _ rfl hkey.out ?_; rw [hd])
          | (at_mapUpdate; refine wpList_mapUpdate_own _ rfl _ _ _ 55 rfl 9 56 law9 Try.underlying55 (unitElem (H := Unit)) bm (nB + j) D rfl (OWN.out.alloc _) (by unfold maxLen; omega) _ _ _ rfl rfl hkey.out _ [] unitElem_mk ?_; intro w1 hown1 hgrow1; have OWN1 := Lib.hid hown1; have HG := Lib.hid hgrow1; have N1 := Lib.hid ((hgrow1.block (w.heap.size + 1) (by simp; omega) (fun e => hfne (Option.some.inj e))).trans ((Below.heap_alloc _ _ _ hfbl).trans f0)); have q1 := Lib.cell_of_heap N1.out 0; simp only [List.getElem?_toArray, List.getElem?_cons_zero] at q1; have ROW1 : Hid (SRow w.heap.size w1 fv fr) := Lib.hid (World.ownsRow.keep BD.out.row fun g hg => (hgrow1.block g (by have := (World.ownsRow.there BD.out.row hg).2; simp; omega) (fun e => by have := (World.ownsRow.there BD.out.row hg).1; have := Option.some.inj e; omega)).trans (Below.heap_alloc _ _ _ (World.ownsRow.there BD.out.row hg).2)); have ROW2 : Hid (SRow w.heap.size (w1.alloc (.cells #[.string t] 9)) fv fr) := Lib.hid (ROW1.out.after ((Below.refl _ _).alloc (Nat.le_refl _) _)); unfold SRow at ROW2; have S1 := Lib.hid (show w.heap.size ≤ (w1.alloc (.cells #[.string t] 9)).heap.size from by have a1 := hgrow1.size; simp at a1 ⊢; omega); clear hown1 hgrow1)
          | (at_builtin; refine wpList_append_own_at _ rfl _ _ 31 rfl w.heap.size 9 i0 (.string ByteArray.empty) 1 16 Try.underlying31 HI.out.1 HI.out.2.1 HI.out.2.2.1 HI.out.2.2.2 rfl (by decide) _ _ _ rfl ROW2.out ⟨w1.heap.size, 0, none⟩ 1 1 [.string t] rfl rfl (cell_one_new _ _ _) (strCells_one [t]) (by have := LEN.out; unfold maxLen; omega) (by have := LEN.out; omega) S1.out ?_; intro v' w3 hown' hgrow hnil hloc; have HLOC := Lib.hid hloc; obtain ⟨_, p', c', rfl, _⟩ := SliceAt.of_owns hown'; have HO3 := Lib.hid hown'; have HG3 := Lib.hid hgrow; have hnb1 := lt_of_heap N1.out; have N3 := Lib.hid ((hgrow.block (w.heap.size + 1) (by simp; omega) (fun e => by have hg := World.ownsRow.there ROW1.out e.symm; obtain ⟨cur, hcu⟩ := row_cells ROW1.out e.symm; rw [N1.out] at hcu; simp at hcu)).trans ((Below.heap_alloc _ _ _ hnb1).trans N1.out)); have q3 := Lib.cell_of_heap N3.out 0; simp only [List.getElem?_toArray, List.getElem?_cons_zero] at q3; have f3 := Lib.frozen_of_heap N3.out 0; clear hown' hgrow hnil hloc)
          | go_in)
        refine ⟨⟨j + 1, .slice p' (fr.length + 1) c', fr ++ [t], hlt, by go_num, ?_⟩, by simp [intOf]; omega⟩
        rw [TK.out]
        exact BD.out.added (by omega) (Nat.le_refl _) hbm HY.out HG.out ⟨_, OWN1.out, fun s => by rw [set_put OWN.out.isMap HH.out t _ s]; show _ = (B s || inB s (names.take j ++ [t])); rw [inB_append, inB_one, Bool.or_assoc]⟩ HG3.out HO3.out HLOC.out
    · obtain rfl : j = n := by omega
      go_wp2
      go_ret
      refine ⟨fv, fr, rfl, ?_⟩
      have := BD.out
      rwa [List.take_of_length_le (by rw [← HNL.out]; exact Nat.le_refl _)] at this
end Go.Proofs.Ytlalnmefppbebaa
