/- find: what a finder holds between its calls. -/
import Derived.Test.YtlalnmefppbebaaSynJ
import Derived.Test.YtlalnmefppbebaaSynH
namespace Go.Proofs.Ytlalnmefppbebaa
open Go.RowKit Go.Maps Go.Proofs.TreeMath
theorem Tr.of_bm {base nb tm bm : Nat} {v : Value} {w w' : World} (h : w.grownBy w' (some bm)) (h1 : base ≤ bm) (h2 : base ≤ w.heap.size) : Tr base nb tm bm v v w w' :=
  ⟨⟨h.os, h.tape, h.output, h.size, fun k hk => h.block k (by omega) (fun e => by have := Option.some.inj e; omega)⟩, fun k o a1 _ _ a4 _ => (h.block k (lt_of_heap a1) (fun e => a4 (Option.some.inj e))).trans a1, .inl rfl⟩
section
variable {base nb tb tm bm : Nat} {B : ByteArray → Bool} {nB na : Nat} {v v' : Value} {acc : List ByteArray} {w w' : World}
theorem Fs.of_bm (h : Fs base nb tb tm bm B nB na v acc w) (g : w.grownBy w' (some bm)) {B' : ByteArray → Bool} {n' : Nat} (hb : SetAt w' bm n' B') : Fs base nb tb tm bm B' n' na v acc w' :=
  h.kept (fun i hi hne => g.block i hi (fun e => hne (Option.some.inj e))) hb
/-- A block of cells that is none of the finder's. -/
theorem Fs.cells_kept (h : Fs base nb tb tm bm B nB na v acc w) (k : Tr base nb tm bm v v' w w') {x : Nat} {cs : Array Value} {ty : TypeId} (hx : w.heap[x]? = some (.cells cs ty (0, 0))) (h1 : x ≠ nb) (h2 : v.ownBlock ≠ some x) : w'.heap[x]? = some (.cells cs ty (0, 0)) := by
  obtain ⟨es, cl, hbo⟩ := h.bound.obj
  obtain ⟨es2, cl2, hto⟩ := h.told.obj
  refine k.keep x _ hx h1 ?_ ?_ h2
  · rintro rfl; rw [hto] at hx; simp at hx
  · rintro rfl; rw [hbo] at hx; simp at hx
theorem Fs.type_kept (h : Fs base nb tb tm bm B nB na v acc w) (k : Tr base nb tm bm v v' w w') {x : Nat} {cs : Array Value} {ty : TypeId} (hx : w.heap[x]? = some (.cells cs ty (0, 0))) (h1 : ty ≠ 31) (h2 : ty ≠ 9) : w'.heap[x]? = some (.cells cs ty (0, 0)) := by
  refine h.cells_kept k hx ?_ ?_
  · rintro rfl
    have := h.names
    rw [hx] at this
    simp at this
    exact h1 this.2
  · intro e
    obtain ⟨cur, hc⟩ := row_cells h.row e
    rw [hx] at hc
    simp at hc
    exact h2 hc.2
/-- Names that lie in a block of their own. -/
theorem Fs.strs_kept (h : Fs base nb tb tm bm B nB na v acc w) (k : Tr base nb tm bm v v' w w') {nv : Value} {names : List ByteArray} (hn : StrsAt w nv names) (hne : names = [] ∨ nv.ownBlock ≠ v.ownBlock) : StrsAt w' nv names ∧ (names = [] ∨ nv.ownBlock ≠ v'.ownBlock) := by
  obtain ⟨h1, p, c, rfl, h2, h3, h4⟩ := hn
  by_cases h0 : names = []
  · exact ⟨⟨h1, p, c, rfl, h2, h3, fun e => absurd (by rw [h0]; rfl) e⟩, .inl h0⟩
  · have hl : names.length ≠ 0 := fun e => h0 (List.eq_nil_of_length_eq_zero e)
    obtain ⟨b, off, rfl, hb, hc⟩ := h4 hl
    have hne' : some b ≠ v.ownBlock := hne.resolve_left h0
    have c0 := hc.str 0 (by omega)
    obtain ⟨es, cl, hbo⟩ := h.bound.obj
    obtain ⟨es2, cl2, hto⟩ := h.told.obj
    have e1 : b ≠ nb := by
      rintro rfl
      obtain ⟨vp, vc, hv⟩ := strs_form h.row.at
      have := Lib.cell_of_heap h.names (off + 0)
      rw [this, hv] at c0
      have hz : off + 0 = 0 := by
        rcases Nat.eq_zero_or_pos (off + 0) with e | e
        · exact e
        · rw [show (#[Value.slice vp acc.length vc] : Array Value)[off + 0]? = none by simp; omega] at c0
          cases c0
      rw [hz] at c0
      simp at c0
    have e2 : b ≠ tm := by rintro rfl; simp [World.cell?, hto] at c0
    have e3 : b ≠ bm := by rintro rfl; simp [World.cell?, hbo] at c0
    have hko : w'.heap[b]? = w.heap[b]? := by
      rw [k.keep b _ (Array.getElem?_eq_getElem hb) e1 e2 e3 (fun e => hne' e.symm), Array.getElem?_eq_getElem hb]
    refine ⟨⟨h1, _, c, rfl, h2, h3, fun _ => ⟨b, off, rfl, Nat.lt_of_lt_of_le hb k.below.size, hc.kept hko⟩⟩, .inr ?_⟩
    show some b ≠ v'.ownBlock
    rcases k.row with e | ⟨g, e, hg⟩
    · rw [e]; exact hne'
    · rw [e]
      intro e2
      have := Option.some.inj e2
      omega
end
/-- Ahead of the release. -/
theorem release_pre {base nb tb tm bm : Nat} {B B' : ByteArray → Bool} {nB nB' na : Nat} {v' v4 lv fv : Value} {acc : List ByteArray} {names fr : List ByteArray} {wB w3 w4 : World} (hfs : Fs base nb tb tm bm B nB na v' acc wB) (bd : Bd wB nb tb bm (wB.heap.size + 1) wB.heap.size nB' lv B names fv fr w3)
    (fs3 : Fs base nb tb tm bm B' nB' na v' acc w3) (tr : Tr base nb tm bm v' v4 w3 w4) : w4.heap[wB.heap.size + 1]? = some (.cells #[fv] 31 (0, 0)) ∧ w4.heap[wB.heap.size]? = some (fdObj lv nb tb bm) ∧ StrsAt w4 fv fr := by
  have hnb := lt_of_heap hfs.names
  have hv : ∀ k, v'.ownBlock = some k → k < wB.heap.size := fun k hk => (World.ownsRow.there hfs.row hk).2
  refine ⟨fs3.cells_kept tr bd.fresh (by omega) (fun e => by have := hv _ e; omega), fs3.type_kept tr bd.box (by decide) (by decide), ?_⟩
  have hne : fr = [] ∨ fv.ownBlock ≠ v'.ownBlock := by
    by_cases h0 : fr = []
    · exact .inl h0
    · right
      intro e
      cases hf : fv.ownBlock with
      | none =>
        rcases bd.row.2 with ⟨rfl, hl⟩ | ⟨g', cap, cur, rfl, _, hg', _⟩
        · exact h0 (List.eq_nil_of_length_eq_zero hl)
        · simp [Value.ownBlock] at hf
      | some g =>
        rw [hf] at e
        have := hv g e.symm
        have := (World.ownsRow.there bd.row hf).1
        omega
  exact (fs3.strs_kept tr bd.row.at hne).1
/-- Behind the release. -/
theorem after_kid {base nb tb tm bm : Nat} {B : ByteArray → Bool} {nB nB' nB4 na na4 : Nat} {v' v4 lv fv : Value} {acc acc4 : List ByteArray} {names fr : List ByteArray} {fb rb : Nat} {wB w3 w4 w6 : World} (hfs : Fs base nb tb tm bm B nB na v' acc wB) (bd : Bd wB nb tb bm fb rb nB' lv B names fv fr w3)
    (fs4 : Fs base nb tb tm bm (fun s => B s || inB s names) nB4 na4 v4 acc4 w4) (tr : Tr base nb tm bm v' v4 w3 w4) (set6 : SetAt w6 bm nB4 (fun s => (B s || inB s names) && !inB s fr)) (gr6 : w4.grownBy w6 (some bm)) :
    Fs base nb tb tm bm B nB4 na4 v4 acc4 w6 ∧ Tr base nb tm bm v' v4 wB w6 := by
  constructor
  · refine fs4.of_bm gr6 ?_
    obtain ⟨D, h1, h2⟩ := set6
    exact ⟨D, h1, fun s => (h2 s).trans (bd.sep s)⟩
  · exact ((Tr.of_bm bd.grown hfs.hbm hfs.lt).trans tr).trans (Tr.of_bm gr6 fs4.hbm fs4.lt)
def FGood (W : World) (lv : Value) (ns : List Nd) (nb tb tm bm : Nat) (n : Nd) (k : F) : Prop :=
  ∀ (pre post : List Nd) (B : ByteArray → Bool) (nB na : Nat) (v : Value) (acc : List ByteArray) (w : World), ns = pre ++ (n :: (k.flat ++ post)) → Fs W.heap.size nb tb tm bm B nB na v acc w → Below W.heap.size W w → nB ≤ (ns.length + 1) * (pre.length + 1) → na ≤ pre.length →
    Calls Try.prog 39 #[fdV lv nb tb bm, .int .i64 (pre.length : Int)] w (FRet W.heap.size nb tb tm bm B ((ns.length + 1) * (pre.length + 1 + k.sz)) (pre.length + 1 + k.sz) v (addAll acc ((freeT n k).filter fun s => !B s)) (.int .i64 ((pre.length + 1 + k.sz : Nat) : Int)) w)
def AllFG (W : World) (lv : Value) (ns : List Nd) (nb tb tm bm : Nat) : F → Prop
  | .nil => True
  | .cons n k r => FGood W lv ns nb tb tm bm n k ∧ AllFG W lv ns nb tb tm bm r
theorem less_filter (l names : List ByteArray) (B : ByteArray → Bool) : (lessL l names).filter (fun s => !B s) = l.filter fun s => !(B s || inB s names) := by
  unfold lessL
  rw [List.filter_filter]
  congr 1
  funext s
  cases B s <;> cases inB s names <;> rfl
/-- What holds ahead of each kid. -/
def Lr (W w : World) (lv : Value) (ns post : List Nd) (nb tb tm bm : Nat) (B : ByteArray → Bool) (k0 : Int) (t0 : ByteArray) (m0 d0 : Int) (K END : Nat) (R : List ByteArray) (v : Value) (i q : Nat) (nmv : Value) (wr : World) : Prop :=
  ∃ (g : F) (pre' : List Nd) (names : List ByteArray) (v' : Value) (acc' : List ByteArray),
    i + g.cnt = K ∧ q + g.sz = END ∧ q = pre'.length ∧ ns = pre' ++ (g.flat ++ post) ∧ AllFG W lv ns nb tb tm bm g ∧ g.ok ∧ StrsAt wr nmv names ∧ (names = [] ∨ nmv.ownBlock ≠ v'.ownBlock) ∧ names.length ≤ ns.length ∧ (∀ s ∈ names, s.size ≤ 300) ∧
    Fs W.heap.size nb tb tm bm B ((ns.length + 1) * q) q v' acc' wr ∧ addAll acc' ((freeK g k0 t0 i names).filter fun s => !B s) = R ∧ wr.heap[w.heap.size]? = some (fdObj lv nb tb bm) ∧ wr.heap[w.heap.size + 1]? = some (nodeObj k0 t0 m0 d0) ∧ Tr W.heap.size nb tm bm v v' w wr
theorem two_boxes (w : World) (k0 : Int) (t0 : ByteArray) (m0 d0 : Int) (lv : Value) (nb tb bm : Nat) : ((w.alloc (fdObj lv nb tb bm)).alloc (nodeObj k0 t0 m0 d0)).heap[w.heap.size]? = some (fdObj lv nb tb bm) ∧ ((w.alloc (fdObj lv nb tb bm)).alloc (nodeObj k0 t0 m0 d0)).heap[w.heap.size + 1]? = some (nodeObj k0 t0 m0 d0) := by
  constructor
  · show ((w.heap.push _).push _)[w.heap.size]? = _
    rw [Array.getElem?_push_lt (by simp)]
    simp [fdObj]
  · show ((w.heap.push _).push _)[w.heap.size + 1]? = _
    rw [Array.getElem?_push]
    simp [nodeObj]
theorem fd_cells {w : World} {x nb tb bm : Nat} {lv : Value} (h : w.heap[x]? = some (fdObj lv nb tb bm)) :
    w.cell? ⟨x, 0, none⟩ = some lv ∧ w.cell? ⟨x, 1, none⟩ = some (.map (some bm)) ∧ w.cell? ⟨x, 2, none⟩ = some (.func (.func 38) #[] #[.pointer (some ⟨tb, 0, none⟩), .pointer (some ⟨nb, 0, none⟩)]) := by
  unfold fdObj at h
  exact ⟨Lib.cell_of_heap h 0, Lib.cell_of_heap h 1, Lib.cell_of_heap h 2⟩
/-- find of a kid. -/
theorem find_pre {W w3 : World} {lv v' : Value} {ns pre' post : List Nd} {nb tb tm bm M q l : Nat} {m : Nd} {kk r : F} {B' : ByteArray → Bool} {acc' : List ByteArray} (ha : FGood W lv ns nb tb tm bm m kk) (hM : M = ns.length) (hq : q = pre'.length) (hns : ns = pre' ++ ((F.cons m kk r).flat ++ post))
    (fs3 : Fs W.heap.size nb tb tm bm B' ((M + 1) * q + l) q v' acc' w3) (hl : l ≤ M) (hbel : Below W.heap.size W w3) :
    Calls Try.prog 39 #[fdV lv nb tb bm, .int .i64 (q : Int)] w3 (FRet W.heap.size nb tb tm bm B' ((M + 1) * (q + 1 + kk.sz)) (q + 1 + kk.sz) v' (addAll acc' ((freeT m kk).filter fun s => !B' s)) (.int .i64 ((q + 1 + kk.sz : Nat) : Int)) w3) := by
  subst hM
  subst hq
  refine ha pre' (r.flat ++ post) B' _ _ v' acc' w3 ?_ fs3 hbel ?_ (Nat.le_refl _)
  · rw [hns]
    simp [F.flat]
  · rw [Nat.mul_succ]
    omega
/-- Behind a kid. -/
theorem kid_step {k0 : Int} {t0 : ByteArray} {m : Nd} {kk r : F} {i : Nat} {B : ByteArray → Bool} {acc' R nm : List ByteArray} (h : addAll acc' ((lessL (freeT m kk) nm ++ freeK r k0 t0 (i + 1) nm).filter fun s => !B s) = R) :
    addAll (addAll acc' ((freeT m kk).filter fun s => !(B s || inB s nm))) ((freeK r k0 t0 (i + 1) nm).filter fun s => !B s) = R := by
  rw [List.filter_append, less_filter, addAll_append] at h
  exact h
end Go.Proofs.Ytlalnmefppbebaa
