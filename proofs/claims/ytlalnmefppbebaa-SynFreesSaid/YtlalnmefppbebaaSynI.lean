/- What a finder holds; the closure that collects names; meet. -/
import Derived.Test.YtlalnmefppbebaaSynF
namespace Go.Proofs.Ytlalnmefppbebaa
open Go.RowKit Go.Maps Go.Proofs.TreeMath
/-- Block b is a set of at most n texts: those of B. -/
def SetAt (w : World) (b n : Nat) (B : ByteArray → Bool) : Prop := ∃ D, w.ownsMap Try.prog 9 (unitElem (H := Unit)) b n D ∧ ∀ s, Maps.has D (litS s) = B s
theorem SetAt.lt {w : World} {b n : Nat} {B : ByteArray → Bool} (h : SetAt w b n B) : b < w.heap.size := by
  obtain ⟨D, h1, _⟩ := h
  exact h1.lt
theorem SetAt.mono {w : World} {b n m : Nat} {B : ByteArray → Bool} (h : SetAt w b n B) (hm : n ≤ m) : SetAt w b m B := by
  obtain ⟨D, h1, h2⟩ := h
  exact ⟨D, h1.mono hm, h2⟩
theorem SetAt.of_block {w w' : World} {b n : Nat} {B : ByteArray → Bool} (h : SetAt w b n B) (e : w'.heap[b]? = w.heap[b]?) : SetAt w' b n B := by
  obtain ⟨D, ⟨es, clock, hb, r⟩, h2⟩ := h
  exact ⟨D, ⟨es, clock, e.trans hb, r⟩, h2⟩
theorem SetAt.obj {w : World} {b n : Nat} {B : ByteArray → Bool} (h : SetAt w b n B) : ∃ es clock, w.heap[b]? = some (.map es clock) := by
  obtain ⟨D, ⟨es, clock, hb, r⟩, h2⟩ := h
  exact ⟨es, clock, hb⟩
theorem SetAt.made (w : World) : SetAt (w.alloc (.map #[] 0)) w.heap.size 0 (fun _ => false) := ⟨_, World.ownsMap_made _ _ _ _, fun _ => rfl⟩
theorem set_put {D : DataW Unit} {B : ByteArray → Bool} (hD : IsMap D) (h : ∀ s, Maps.has D (litS s) = B s) (t : ByteArray) (d : DataW Unit) : ∀ s, Maps.has (D.put (litS t) d) (litS s) = (B s || decide (t = s)) := by
  intro s
  by_cases hs : t = s
  · subst hs
    rw [has_put_same hD (litS_key t)]
    simp
  · rw [has_put_other (fun e => hs (litS_inj e).symm), h]
    simp [hs]
theorem set_del {D : DataW Unit} {B : ByteArray → Bool} (h : ∀ s, Maps.has D (litS s) = B s) (t : ByteArray) : ∀ s, Maps.has (D.del (litS t)) (litS s) = (B s && !decide (t = s)) := by
  intro s
  by_cases hs : t = s
  · subst hs
    rw [has_del_same]
    simp
  · rw [has_del_other (fun e => hs (litS_inj e).symm), h]
    simp [hs]
/-- What a finder holds: the names found, the set of those told, the set of those bound. -/
structure Fs (base nb tb tm bm : Nat) (B : ByteArray → Bool) (nB na : Nat) (v : Value) (acc : List ByteArray) (w : World) : Prop where
  hnb : base ≤ nb
  htm : base ≤ tm
  hbm : base ≤ bm
  ne : tm ≠ bm
  names : w.heap[nb]? = some (.cells #[v] 31 (0, 0))
  row : SRow base w v acc
  tcell : w.heap[tb]? = some (.cells #[.map (some tm)] 55 (0, 0))
  told : SetAt w tm na (fun s => inB s acc)
  bound : SetAt w bm nB B
  len : acc.length ≤ na
/-- All else stays; the names lie where they lay, or in a new block. -/
structure Tr (base nb tm bm : Nat) (v v' : Value) (w w' : World) : Prop where
  below : Below base w w'
  keep : ∀ k o, w.heap[k]? = some o → k ≠ nb → k ≠ tm → k ≠ bm → v.ownBlock ≠ some k → w'.heap[k]? = some o
  row : v'.ownBlock = v.ownBlock ∨ ∃ g, v'.ownBlock = some g ∧ w.heap.size ≤ g
theorem lt_of_heap {w : World} {k : Nat} {o : Obj} (h : w.heap[k]? = some o) : k < w.heap.size := (Array.getElem?_eq_some_iff.1 h).1
theorem Tr.trans {base nb tm bm : Nat} {v v1 v2 : Value} {w w1 w2 : World} (h : Tr base nb tm bm v v1 w w1) (k : Tr base nb tm bm v1 v2 w1 w2) : Tr base nb tm bm v v2 w w2 := by
  refine ⟨h.below.trans k.below, fun i o h1 h2 h3 h4 h5 => ?_, ?_⟩
  · refine k.keep i o (h.keep i o h1 h2 h3 h4 h5) h2 h3 h4 ?_
    rcases h.row with e | ⟨g, e, hg⟩
    · rw [e]; exact h5
    · rw [e]
      intro e2
      have := lt_of_heap h1
      simp at e2
      omega
  · rcases k.row with e | ⟨g, e, hg⟩
    · rw [e]; exact h.row
    · exact .inr ⟨g, e, Nat.le_trans h.below.size hg⟩
theorem Tr.of_below {base nb tm bm : Nat} {v : Value} {w w' : World} (h : Below w.heap.size w w') (hb : base ≤ w.heap.size) : Tr base nb tm bm v v w w' :=
  ⟨⟨h.os, h.tape, h.output, h.size, fun k hk => h.block k (by omega)⟩, fun k o h1 _ _ _ _ => (h.block k (lt_of_heap h1)).trans h1, .inl rfl⟩
section
variable {base nb tb tm bm : Nat} {B : ByteArray → Bool} {nB na : Nat} {v : Value} {acc : List ByteArray} {w w' : World}
theorem Fs.lt (h : Fs base nb tb tm bm B nB na v acc w) : base ≤ w.heap.size := by
  have := lt_of_heap h.names
  have := h.hnb
  omega
/-- What stays: all but the bound ones. -/
theorem Fs.kept (h : Fs base nb tb tm bm B nB na v acc w) (k : ∀ i, i < w.heap.size → i ≠ bm → w'.heap[i]? = w.heap[i]?) {B' : ByteArray → Bool} {n' : Nat} (hb : SetAt w' bm n' B') : Fs base nb tb tm bm B' n' na v acc w' := by
  obtain ⟨es, cl, hbo⟩ := h.bound.obj
  refine ⟨h.hnb, h.htm, h.hbm, h.ne, ?_, ?_, ?_, ?_, hb, h.len⟩
  · rw [k nb (lt_of_heap h.names) (by rintro rfl; have := h.names; rw [hbo] at this; simp at this)]
    exact h.names
  · refine World.ownsRow.keep h.row fun g hg => k g (World.ownsRow.there h.row hg).2 ?_
    rintro rfl
    rcases h.row.2 with ⟨rfl, _⟩ | ⟨g', cap, cur, rfl, _, hg', _⟩
    · cases hg
    · simp [Value.ownBlock] at hg
      subst hg
      rw [hbo] at hg'
      simp at hg'
  · rw [k tb (lt_of_heap h.tcell) (by rintro rfl; have := h.tcell; rw [hbo] at this; simp at this)]
    exact h.tcell
  · exact h.told.of_block (k tm h.told.lt h.ne)
theorem Fs.below (h : Fs base nb tb tm bm B nB na v acc w) (k : Below w.heap.size w w') : Fs base nb tb tm bm B nB na v acc w' :=
  h.kept (fun i hi _ => k.block i hi) (h.bound.of_block (k.block bm h.bound.lt))
theorem Fs.row_ne (h : Fs base nb tb tm bm B nB na v acc w) : v.ownBlock ≠ some nb ∧ v.ownBlock ≠ some tm ∧ v.ownBlock ≠ some bm ∧ v.ownBlock ≠ some tb ∧ nb ≠ tm ∧ nb ≠ tb ∧ nb ≠ bm ∧ tb ≠ tm := by
  obtain ⟨es, cl, hbo⟩ := h.bound.obj
  obtain ⟨es2, cl2, hto⟩ := h.told.obj
  have hr : ∀ k, v.ownBlock = some k → ∃ cur, w.heap[k]? = some (.cells cur 9 (0, 0)) := by
    intro k hk
    rcases h.row.2 with ⟨rfl, _⟩ | ⟨g', cap, cur, rfl, _, hg', _⟩
    · cases hk
    · simp [Value.ownBlock] at hk
      subst hk
      exact ⟨cur, hg'⟩
  refine ⟨?_, ?_, ?_, ?_, ?_, ?_, ?_, ?_⟩
  · intro e
    obtain ⟨cur, hc⟩ := hr _ e
    rw [h.names] at hc
    simp at hc
  · intro e
    obtain ⟨cur, hc⟩ := hr _ e
    rw [hto] at hc
    simp at hc
  · intro e
    obtain ⟨cur, hc⟩ := hr _ e
    rw [hbo] at hc
    simp at hc
  · intro e
    obtain ⟨cur, hc⟩ := hr _ e
    rw [h.tcell] at hc
    simp at hc
  · rintro rfl
    have := h.names
    rw [hto] at this
    simp at this
  · rintro rfl
    have := h.names
    rw [h.tcell] at this
    simp at this
  · rintro rfl
    have := h.names
    rw [hbo] at this
    simp at this
  · rintro rfl
    have := h.tcell
    rw [hto] at this
    simp at this
end
theorem Fs.up {base nb tb tm bm : Nat} {B : ByteArray → Bool} {nB na nB' na' : Nat} {v : Value} {acc : List ByteArray} {w : World} (h : Fs base nb tb tm bm B nB na v acc w) (h1 : nB ≤ nB') (h2 : na ≤ na') : Fs base nb tb tm bm B nB' na' v acc w :=
  ⟨h.hnb, h.htm, h.hbm, h.ne, h.names, h.row, h.tcell, h.told.mono h2, h.bound.mono h1, Nat.le_trans h.len h2⟩
def addOne (acc : List ByteArray) (s : ByteArray) : List ByteArray := if inB s acc then acc else acc ++ [s]
theorem addAll_one (acc : List ByteArray) (s : ByteArray) : addAll acc [s] = addOne acc s := rfl
/-- A function that collects names. -/
def FRet (base nb tb tm bm : Nat) (B : ByteArray → Bool) (nB na : Nat) (v : Value) (acc : List ByteArray) (x : Value) (w : World) (e : Ending) (w' : World) : Prop :=
  e = .returned x ∧ ∃ v', Fs base nb tb tm bm B nB na v' acc w' ∧ Tr base nb tm bm v v' w w'
theorem found_end {base nb tb tm bm : Nat} {B : ByteArray → Bool} {nB na : Nat} {v v' : Value} {acc : List ByteArray} {s : ByteArray} {w w1 w3 : World} {o1 o2 : Obj} (H : Fs base nb tb tm bm B nB na v acc w)
    (hg1 : (w.alloc o1).grownBy w1 (some tm)) (hm : SetAt w1 tm (na + 1) (fun x => inB x (acc ++ [s]))) (hg3 : (w1.alloc o2).grownBy w3 v.ownBlock) (hrow : w3.ownsRow base 9 1 v' (acc.length + 1) (strCells acc ++ [.string s]))
    (hloc : v'.ownBlock = v.ownBlock ∨ v'.ownBlock = some (w1.alloc o2).heap.size) :
    Fs base nb tb tm bm B nB (na + 1) v' (acc ++ [s]) (w3.setCell ⟨nb, 0, none⟩ v') ∧ Tr base nb tm bm v v' w (w3.setCell ⟨nb, 0, none⟩ v') := by
  obtain ⟨r1, r2, r3, r4, r5, r6, r7, r8⟩ := H.row_ne
  have s1 := hg1.size
  have s3 := hg3.size
  have hb := H.lt
  simp at s1 s3
  have K1 : ∀ i, i < w1.heap.size → v.ownBlock ≠ some i → w3.heap[i]? = w1.heap[i]? := fun i hi hn =>
    (hg3.block i (by simp; omega) (fun e => hn e.symm)).trans (Below.heap_alloc _ _ _ hi)
  have K : ∀ i, i < w.heap.size → i ≠ tm → v.ownBlock ≠ some i → w3.heap[i]? = w.heap[i]? := fun i hi h1 h2 =>
    (K1 i (by omega) h2).trans ((hg1.block i (by simp; omega) (fun e => h1 (Option.some.inj e))).trans (Below.heap_alloc _ _ _ hi))
  have SC : ∀ i, i ≠ nb → (w3.setCell ⟨nb, 0, none⟩ v').heap[i]? = w3.heap[i]? := fun i hi => Below.heap_setCell _ _ _ _ hi
  have hv3 : ∀ g, v'.ownBlock = some g → g ≠ nb := by
    rintro g hg rfl
    rcases hloc with e | e
    · rw [e] at hg; exact r1 hg
    · rw [e] at hg
      have := lt_of_heap H.names
      simp at hg
      omega
  have hB : Below base w w3 := by
    have a : Below base w (w.alloc o1) := (Below.refl _ _).alloc hb _
    have b : Below base w w1 := a.grown hg1 (by simp; omega) (fun k hk => by cases hk; exact H.htm)
    have c : Below base w (w1.alloc o2) := b.alloc (by omega) _
    exact c.grown hg3 (by simp; omega) (fun k hk => (World.ownsRow.there H.row hk).1)
  refine ⟨⟨H.hnb, H.htm, H.hbm, H.ne, ?_, ?_, ?_, ?_, ?_, ?_⟩, ⟨hB.setCell H.hnb _, ?_, ?_⟩⟩
  · have hN : w3.heap[nb]? = some (.cells #[v] 31 (0, 0)) := (K nb (lt_of_heap H.names) r5 r1).trans H.names
    simp [World.setCell, Array.getElem?_modify, hN]
  · unfold SRow
    rw [List.length_append, strCells_append]
    exact World.ownsRow.keep hrow fun g hg => SC g (hv3 g hg)
  · rw [SC tb (fun e => r6 e.symm), K tb (lt_of_heap H.tcell) r8 r4]
    exact H.tcell
  · refine hm.of_block ?_
    rw [SC tm (fun e => r5 e.symm), K1 tm hm.lt r2]
  · refine H.bound.of_block ?_
    rw [SC bm (fun e => r7 e.symm), K bm H.bound.lt (fun e => H.ne e.symm) r3]
  · have := H.len
    simp
    omega
  · intro k o h1 h2 h3 h4 h5
    rw [SC k h2, K k (lt_of_heap h1) h3 h5]
    exact h1
  · rcases hloc with e | e
    · exact .inl e
    · exact .inr ⟨_, e, by simp; omega⟩
set_option maxRecDepth 100000 in
set_option maxHeartbeats 2000000 in
theorem found_any (base nb tb tm bm : Nat) (B : ByteArray → Bool) (nB na : Nat) (v : Value) (acc : List ByteArray) (s : ByteArray) (w : World) (h : Fs base nb tb tm bm B nB na v acc w) (hs : s.size ≤ 300) (hna : na ≤ 100000) :
    Calls Try.prog 38 #[.string s, .pointer (some ⟨tb, 0, none⟩), .pointer (some ⟨nb, 0, none⟩)] w (FRet base nb tb tm bm B nB (na + 1) v (addOne acc s) (.tuple #[]) w) := by
  obtain ⟨i0, hi0, hz0, hz1, hz2⟩ := infoStr
  have HI := Lib.hid (And.intro hi0 (And.intro hz0 (And.intro hz1 hz2)))
  clear hi0 hz0 hz1 hz2
  have hkey := Lib.hid (keyS s hs)
  have ct := Lib.cell_of_heap h.tcell 0
  simp only [List.getElem?_toArray, List.getElem?_cons_zero] at ct
  obtain ⟨D, hown, hhas⟩ := h.told
  have htb := lt_of_heap h.tcell
  have OWN := Lib.hid hown
  have H := Lib.hid h
  have hb0 : Below w.heap.size w (w.alloc (.cells #[] 56)) := (Below.refl _ _).alloc (Nat.le_refl _) _
  have HB0 := Lib.hid hb0
  have HH := Lib.hid hhas
  have hnb := lt_of_heap h.names
  clear hs hb0 hown h
  cases hin : inB s acc with
  | true =>
    have hd : Maps.has D (litS s) = true := (hhas s).trans hin
    have e : addOne acc s = acc := by simp [addOne, hin]
    rw [e]
    clear hhas e hin
    go_enter Try.func38, Try.ntmps38
    go_wp2_with (first
      | (at_lookup; refine wpList_lookup_own_unit _ rfl _ _ 55 rfl 9 56 law9 Try.underlying55 (zero56 _) tm na D rfl OWN.out _ _ rfl hkey.out ?_; rw [hd])
      | go_in)
    go_end0
    exact ⟨rfl, v, (H.out.below HB0.out).up (Nat.le_refl _) (Nat.le_succ _), Tr.of_below HB0.out H.out.lt⟩
  | false =>
    have hd : Maps.has D (litS s) = false := (hhas s).trans hin
    have e : addOne acc s = acc ++ [s] := by simp [addOne, hin]
    rw [e]
    obtain ⟨r1, r2, r3, r4, r5, r6, r7, r8⟩ := H.out.row_ne
    have R := Lib.hid (And.intro r1 (And.intro r2 (And.intro r3 (And.intro r4 (And.intro r5 (And.intro r6 (And.intro r7 r8)))))))
    have LEN : Hid (acc.length ≤ 100000) := Lib.hid (Nat.le_trans H.out.len hna)
    clear hhas e hin r1 r2 r3 r4 r5 r6 r7 r8
    go_enter Try.func38, Try.ntmps38
    go_wp2_with (first
      | (at_lookup; refine wpList_lookup_own_unit _ rfl _ _ 55 rfl 9 56 law9 Try.underlying55 (zero56 _) tm na D rfl OWN.out _ _ rfl hkey.out ?_; rw [hd])
      | (at_mapUpdate; refine wpList_mapUpdate_own _ rfl _ _ _ 55 rfl 9 56 law9 Try.underlying55 (unitElem (H := Unit)) tm na D rfl (OWN.out.alloc _) (by unfold maxLen; omega) _ _ _ rfl rfl hkey.out _ [] unitElem_mk ?_; intro w1 hown1 hgrow1; have OWN1 := Lib.hid hown1; have HG := Lib.hid hgrow1; have N1 := Lib.hid ((hgrow1.block nb (by simp; omega) (fun e => R.out.2.2.2.2.1 (Option.some.inj e))).trans ((Below.heap_alloc _ _ _ hnb).trans H.out.names)); have q1 := Lib.cell_of_heap N1.out 0; simp only [List.getElem?_toArray, List.getElem?_cons_zero] at q1; have ROW1 : Hid (SRow base w1 v acc) := Lib.hid (World.ownsRow.keep H.out.row fun g hg => (hgrow1.block g (by have := (World.ownsRow.there H.out.row hg).2; simp; omega) (fun e => R.out.2.1 (by rw [hg, e]))).trans (Below.heap_alloc _ _ _ (World.ownsRow.there H.out.row hg).2)); have ROW2 : Hid (SRow base (w1.alloc (.cells #[.string s] 9)) v acc) := Lib.hid (ROW1.out.after ((Below.refl _ _).alloc (Nat.le_refl _) _)); unfold SRow at ROW2; have S1 := Lib.hid (show base ≤ (w1.alloc (.cells #[.string s] 9)).heap.size from by have a1 := hgrow1.size; have a2 := H.out.lt; simp at a1 ⊢; omega); clear hown1 hgrow1)
      | (at_builtin; refine wpList_append_own_at _ rfl _ _ 31 rfl base 9 i0 (.string ByteArray.empty) 1 16 Try.underlying31 HI.out.1 HI.out.2.1 HI.out.2.2.1 HI.out.2.2.2 rfl (by decide) _ _ _ rfl ROW2.out ⟨w1.heap.size, 0, none⟩ 1 1 [.string s] rfl rfl (cell_one_new _ _ _) (strCells_one [s]) (by have := LEN.out; unfold maxLen; omega) (by have := LEN.out; omega) S1.out ?_; intro v' w3 hown' hgrow hnil hloc; have HLOC := Lib.hid hloc; obtain ⟨_, p', c', rfl, _⟩ := SliceAt.of_owns hown'; have HO3 := Lib.hid hown'; have HG3 := Lib.hid hgrow; have hnb1 := lt_of_heap N1.out; have N3 := Lib.hid ((hgrow.block nb (by simp; omega) (fun e => R.out.1 e.symm)).trans ((Below.heap_alloc _ _ _ hnb1).trans N1.out)); have q3 := Lib.cell_of_heap N3.out 0; simp only [List.getElem?_toArray, List.getElem?_cons_zero] at q3; have f3 := Lib.frozen_of_heap N3.out 0; clear hown' hgrow hnil hloc)
      | go_in)
    go_end0
    have hset : SetAt w1 tm (na + 1) (fun x => inB x (acc ++ [s])) := ⟨_, OWN1.out, fun x => by rw [set_put OWN.out.isMap HH.out s _ x]; show _ = inB x (acc ++ [s]); rw [inB_append, inB_one]⟩
    obtain ⟨a1, a2⟩ := found_end H.out HG.out hset HG3.out HO3.out HLOC.out
    exact ⟨rfl, _, a1, a2⟩
theorem call38 (vs : Array Value) (w : World) : (callFunc 38 vs).run Try.prog w = .ok (.enter 38 vs) w := run_callFunc Try.func38 (by kernel_rfl) (by kernel_rfl) vs w
/-- A finder as a value. -/
def fdV (lv : Value) (nb tb bm : Nat) : Value := .agg #[lv, .map (some bm), .func (.func 38) #[] #[.pointer (some ⟨tb, 0, none⟩), .pointer (some ⟨nb, 0, none⟩)]]
def fdObj (lv : Value) (nb tb bm : Nat) : Obj := .cells #[lv, .map (some bm), .func (.func 38) #[] #[.pointer (some ⟨tb, 0, none⟩), .pointer (some ⟨nb, 0, none⟩)]] 60
set_option maxRecDepth 100000 in
set_option maxHeartbeats 2000000 in
theorem meet_any (base nb tb tm bm : Nat) (B : ByteArray → Bool) (nB na : Nat) (v : Value) (acc : List ByteArray) (s : ByteArray) (p : Option Addr) (n c : Nat) (w : World) (h : Fs base nb tb tm bm B nB na v acc w) (hs : s.size ≤ 300) (hna : na ≤ 100000) :
    Calls Try.prog 66 #[fdV (.slice p n c) nb tb bm, .string s] w (FRet base nb tb tm bm B nB (na + 1) v (if B s then acc else addOne acc s) (.tuple #[]) w) := by
  have hkey := Lib.hid (keyS s hs)
  obtain ⟨D, hown, hhas⟩ := h.bound
  have OWN := Lib.hid hown
  have H := Lib.hid h
  have hb0 : ∀ o1 o2, Below w.heap.size w ((w.alloc o1).alloc o2) := fun o1 o2 => ((Below.refl _ _).alloc (Nat.le_refl _) _).alloc (by simp) _
  have HB0 := Lib.hid hb0
  clear hb0 hown
  have F := Lib.hid (fun W (hW : Below w.heap.size w W) => found_any base nb tb tm bm B nB na v acc s W (h.below hW) hs hna)
  clear hs h
  unfold fdV
  cases hin : B s with
  | true =>
    have hd : Maps.has D (litS s) = true := (hhas s).trans hin
    clear hhas hin F
    go_enter Try.func66, Try.ntmps66
    go_wp2_with (first
      | (at_lookup; refine wpList_lookup_own_unit _ rfl _ _ 55 rfl 9 56 law9 Try.underlying55 (zero56 _) bm nB D rfl (OWN.out.alloc _) _ _ rfl hkey.out ?_; rw [hd])
      | go_in)
    go_end0
    exact ⟨rfl, v, (H.out.below (HB0.out _ _)).up (Nat.le_refl _) (Nat.le_succ _), Tr.of_below (HB0.out _ _) H.out.lt⟩
  | false =>
    have hd : Maps.has D (litS s) = false := (hhas s).trans hin
    clear hhas hin
    go_enter Try.func66, Try.ntmps66
    go_wp2_with (first
      | (at_lookup; refine wpList_lookup_own_unit _ rfl _ _ 55 rfl 9 56 law9 Try.underlying55 (zero56 _) bm nB D rfl (OWN.out.alloc _) _ _ rfl hkey.out ?_; rw [hd])
      | (refine wpList_call_slot (o := ⟨some 18, _, _, _, _, _⟩) rfl 16 _ _ rfl 38 #[.pointer (some ⟨tb, 0, none⟩), .pointer (some ⟨nb, 0, none⟩)] rfl call38 #[.string s, .pointer (some ⟨tb, 0, none⟩), .pointer (some ⟨nb, 0, none⟩)] (by simp [go_sem]) ?_; refine (F.out _ (HB0.out _ _)).mono ?_; rintro e w1 ⟨rfl, v1, a1, a2⟩; have A1 := Lib.hid a1; have A2 := Lib.hid a2; clear a1 a2; refine ⟨_, rfl, ?_⟩; simp only [Act.put, List.setIfInBounds_toArray, List.set_cons_succ, List.set_cons_zero])
      | go_in)
    go_end0
    exact ⟨rfl, _, A1.out, (Tr.of_below (HB0.out _ _) H.out.lt).trans A2.out⟩
end Go.Proofs.Ytlalnmefppbebaa
