/- Texts of this seat, one behind the other: Own, Copy, Join, Sub. -/
import Derived.Test.YtncifeeinogcnaaDoorKn02
import Derived.Maps.AppendAt
import Derived.Laws.CopyOwn
import Derived.Deep.RegionWith
/- A list of nodes of its own memory: the laws' own. -/
set_option maxRecDepth 100000
namespace Go.Proofs.YtncifeeinogcnaaDoor
open Go.RowKit Go.Proofs.TreeMath
theorem info_of' {P : Program} {t : TypeId} {z : Value} {s b : Nat} (h : (P.info? t).map (fun i => (i.zero, i.size, i.bytes)) = some (some z, s, b)) : ∃ i, P.info? t = some i ∧ i.zero = some z ∧ i.size = s ∧ i.bytes = b := by
  cases hq : P.info? t with
  | none => rw [hq] at h; simp at h
  | some i => rw [hq] at h; simp at h; exact ⟨i, rfl, h.1, h.2.1, h.2.2⟩
def zeroNode : Value := .agg #[.int .i64 0, .string ByteArray.empty, .int .i64 0, .int .i64 0]
theorem infoNode : ∃ i, Tryd.prog.info? 42 = some i ∧ i.zero = some zeroNode ∧ i.size = 4 ∧ i.bytes = 40 := info_of' (by kernel_rfl)
/-- A function that returns a new list of nodes. -/
def NRet (W : World) (ns : List Nd) (e : Ending) (w' : World) : Prop := ∃ v', e = .returned v' ∧ NodesAt w' v' ns ∧ Below W.heap.size W w'
theorem CellsIn.at {w : World} {b off : Nat} {cs : List Value} (h : CellsIn w b off cs) : ∀ j u, cs[j]? = some u → w.cell? ((⟨b, off, none⟩ : Addr).add j) = some u := by
  intro j u hj
  rw [Go.WideShapes.add_plain]
  exact h j u hj
end Go.Proofs.YtncifeeinogcnaaDoor
/- 'copy' between slices whose elements are of several cells, as a law for the walk. -/
namespace Go
open Go.RowKit
theorem run_copy_many {P : Program} (w : World) (dT sT ty elem : TypeId) (k m : Nat) (dp sp : Option Addr) (dLen dCap sLen sCap : Nat) (hu : P.underlying dT = some (.slice elem)) (hs : (P.info? elem).map (·.size) = some k)
    (hm : m = min sLen dLen) (g off : Nat) (cur : List Value) (t : TypeId) (hg : w.heap[g]? = some (.cells cur.toArray t (0, 0))) (cs : List Value) (hn : cs.length = m * k)
    (hpos : 0 < m → dp = some ⟨g, off, none⟩ ∧ ∃ ad, sp = some ad ∧ ∀ j v, cs[j]? = some v → w.cell? (ad.add j) = some v) (hfit : off + cs.length ≤ cur.length) (h1 : ∀ v ∈ cs, v.oneCell' = true) :
    (Builtin.copy_ #[dT, sT] ty #[.slice dp dLen dCap, .slice sp sLen sCap]).run P w = .ok (goInt m) (if m = 0 then w else w.setRow g (splice cur off cs).toArray) := by
  cases hq : P.info? elem with
  | none => simp [hq] at hs
  | some i =>
    have hi : i.size = k := by simpa [hq] using hs
    by_cases h0 : m = 0
    · subst h0
      rw [if_pos rfl]
      have hmm : Nat.min sLen dLen = 0 := hm.symm
      cases sp with
      | none => cases dp <;> simp [Builtin.copy_, run_underlying hu, Builtin.lenOf, Builtin.firstCells, sizeOf, typeInfo, hq, hmm, storeCells]
      | some ad =>
        have hl := run_loadCells_list (P := P) w ad [] (by simp)
        cases dp <;> simp [Builtin.copy_, run_underlying hu, Builtin.lenOf, Builtin.firstCells, sizeOf, typeInfo, hq, hmm] at hl ⊢ <;> simp [hl, storeCells]
    · obtain ⟨rfl, ad, rfl, hsrc⟩ := hpos (by omega)
      rw [if_neg h0]
      have hm : m = Nat.min sLen dLen := hm
      have hl := run_loadCells_list (P := P) w ad cs hsrc
      have hst := run_storeCells_at P g off t cs 0 cur.toArray w hg (by simpa using hfit) h1
      simp [Builtin.copy_, run_underlying hu, Builtin.lenOf, Builtin.firstCells, sizeOf, typeInfo, hq, hi, ← hm, ← hn, hl, hst, splice]
theorem wpList_copy_many {P : Program} {w : World} {ops : Array Oper} {rest : List Oper} {o : Oper} {a : Act} {Q : Exit → Act → World → Prop} (hgd : o.guard = none) (d s : Operand) (dT sT : TypeId)
    (ho : o.op = .call { callee := .builtin .copy, args := #[d, s], argTypes := #[dT, sT] }) (elem : TypeId) (k m : Nat) (hu : P.underlying dT = some (.slice elem)) (hsz : (P.info? elem).map (·.size) = some k)
    (dp sp : Option Addr) (dLen dCap sLen sCap : Nat) (hd : a.eval d = .slice dp dLen dCap) (hs : a.eval s = .slice sp sLen sCap) (hm : m = min sLen dLen)
    (g off : Nat) (cur : List Value) (t : TypeId) (hg : w.heap[g]? = some (.cells cur.toArray t (0, 0))) (cs : List Value) (hn : cs.length = m * k)
    (hpos : 0 < m → dp = some ⟨g, off, none⟩ ∧ ∃ ad, sp = some ad ∧ ∀ j v, cs[j]? = some v → w.cell? (ad.add j) = some v)
    (hfit : off + cs.length ≤ cur.length) (h1 : ∀ v ∈ cs, v.oneCell' = true) (B : Nat) (w0 : World) (hb : Below B w0 w) (hBg : B ≤ g)
    (h : ∀ w', Hid (w'.heap[g]? = some (.cells (splice cur off cs).toArray t (0, 0))) → Below B w0 w' → wpList P ops Q rest (a.put o.dst (goInt m)) w') :
    wpList P ops Q (o :: rest) a w := by
  refine wpList_plain hgd fun K hK => ?_
  have hrun := run_copy_many (P := P) w dT sT o.type elem k m dp sp dLen dCap sLen sCap hu hsz hm g off cur t hg cs hn hpos hfit h1
  unfold Oper.wp
  simp [execOp, ho, resolve, invoke, builtin, hd, hs, hrun, Result.andThen]
  refine hK _ _ (h _ ?_ ?_)
  · by_cases h0 : m = 0
    · have hcs : cs = [] := List.eq_nil_of_length_eq_zero (by rw [hn, h0]; simp)
      subst hcs
      rw [if_pos h0]
      show _ = _
      simpa [splice] using hg
    · rw [if_neg h0]
      exact setRow_heap w g _ _ t _ hg
  · by_cases h0 : m = 0
    · rw [if_pos h0]
      exact hb
    · rw [if_neg h0]
      exact below_setRow hb hBg _
end Go
/- Lists of nodes, one after the other: tree.join. -/
set_option maxRecDepth 100000
namespace Go.Proofs.YtncifeeinogcnaaDoor
open Go.RowKit Go.Proofs.TreeMath
/-- How many nodes the first k lists hold. -/
def sumTo (Ls : List (List Nd)) (k : Nat) : Nat := (Ls.take k).flatten.length
theorem sumTo_succ (Ls : List (List Nd)) (k : Nat) (h : k < Ls.length) : sumTo Ls (k + 1) = sumTo Ls k + (Ls.getD k []).length := by
  unfold sumTo
  rw [List.take_succ_eq_append_getElem h, List.flatten_append, List.length_append, List.getD_eq_getElem?_getD, List.getElem?_eq_getElem h]
  simp
theorem sumTo_le (Ls : List (List Nd)) (k : Nat) : sumTo Ls k ≤ Ls.flatten.length := by
  unfold sumTo
  have h := congrArg (fun x => (List.flatten x).length) (List.take_append_drop k Ls)
  simp only [List.flatten_append, List.length_append] at h
  omega
theorem sumTo_all (Ls : List (List Nd)) : sumTo Ls Ls.length = Ls.flatten.length := by unfold sumTo; rw [List.take_length]
/-- The lists lie in the world, the slice that leads to each in its cell. -/
def Lists (w : World) (b off : Nat) (Ls : List (List Nd)) : Prop := ∀ i, i < Ls.length → ∃ v, w.cell? ⟨b, off + i, none⟩ = some v ∧ NodesAt w v (Ls.getD i [])
theorem Lists.below {w w' : World} {b off : Nat} {Ls : List (List Nd)} (h : Lists w b off Ls) (hb : Below w.heap.size w w') (hbk : b < w.heap.size) : Lists w' b off Ls := by
  intro i hi
  obtain ⟨v, h1, h2⟩ := h i hi
  exact ⟨v, (hb.cell (p := ⟨b, off + i, none⟩) hbk).trans h1, h2.below hb⟩
theorem Lists.one {w : World} {b off : Nat} {Ls : List (List Nd)} (h : Lists w b off Ls) (k : Nat) (hk : k < Ls.length) : ∃ (p : Option Addr) (n c : Nat), w.cell? ⟨b, off + k, none⟩ = some (.slice p n c) ∧ n = (Ls.getD k []).length ∧ NodesAt w (.slice p n c) (Ls.getD k []) := by
  obtain ⟨v, h1, h2⟩ := h k hk
  obtain ⟨_, p, c, hv, _⟩ := id h2
  exact ⟨p, _, c, hv ▸ h1, rfl, hv ▸ h2⟩
theorem sizeNode : (Tryd.prog.info? 42).map (·.size) = some 4 := by kernel_rfl
theorem splice_row (X rest cs : List Value) (off : Nat) (h : off = X.length) : splice (X ++ rest) off cs = (X ++ cs) ++ rest.drop cs.length := by
  subst h
  unfold splice
  rw [List.take_left, List.drop_append]
  simp [List.append_assoc]
theorem take_flat (Ls : List (List Nd)) (k : Nat) (h : k < Ls.length) : (Ls.take (k + 1)).flatten = (Ls.take k).flatten ++ Ls.getD k [] := by
  rw [List.take_succ_eq_append_getElem h, List.flatten_append, List.getD_eq_getElem?_getD, List.getElem?_eq_getElem h]
  simp
set_option maxHeartbeats 2000000 in
theorem join_any (b off c : Nat) (Ls : List (List Nd)) (w : World) (hb : b < w.heap.size) (hL : Hid (Lists w b off Ls)) (hn : Ls.flatten.length ≤ 1000000) (hc : Ls.length ≤ 5000) :
    Calls Tryd.prog 62 #[.slice (some ⟨b, off, none⟩) Ls.length c] w (NRet w Ls.flatten) := by
  obtain ⟨i0, hi, hz0, hz1, hz2⟩ := infoNode
  have HI := Lib.hid (And.intro hi (And.intro hz0 (And.intro hz1 hz2)))
  clear hi hz0 hz1 hz2
  obtain ⟨N, hN⟩ : ∃ N, N = Ls.flatten.length := ⟨_, rfl⟩
  have hn' : N ≤ 1000000 := by omega
  have HN := Lib.hid hN
  clear hN hn
  go_enter Tryd.func62, Tryd.ntmps62
  go_wp2
  go_loop [3, 12] (fun s i => ∃ k S : Nat, k ≤ Ls.length ∧ i = .int .i64 k ∧ s = .int .i64 S ∧ S = sumTo Ls k) (fun _ i => Ls.length - (intOf i).toNat)
  case atStart => exact ⟨0, 0, Nat.zero_le _, rfl, rfl, rfl⟩
  case round =>
    obtain ⟨k, S, hk, rfl, rfl, hS⟩ := hrel
    by_cases hlt : k < Ls.length
    · obtain ⟨p, n, cp, hv, hvl, _⟩ := hL.out.one k hlt
      have hs1 := sumTo_succ Ls k hlt
      have hs2 : S + n ≤ N := by have := sumTo_le Ls (k + 1); rw [HN.out]; omega
      have HS : Hid (S + n = sumTo Ls (k + 1)) := Lib.hid (by omega)
      clear hs1 hS hvl
      go_wp2
      go_round
      case rel => exact ⟨k + 1, S + n, by omega, by go_num, by go_num, HS.out⟩
      case measure => simp [intOf]; omega
    · obtain rfl : S = N := by rw [hS, HN.out, show k = Ls.length by omega, sumTo_all]
      clear hS
      go_wp2_with ((at_make; refine wpList_make_full _ rfl _ _ 36 rfl w.heap.size 42 i0 zeroNode 4 Tryd.underlying36 HI.out.1 HI.out.2.1 HI.out.2.2.1 .i64 .i64 _ _ S rfl rfl rfl rfl (by rw [HI.out.2.2.2]; omega) (by unfold maxLen; omega) (Nat.le_refl _) ?_; intro w1 hown hgrow; have HO := Lib.hid hown; have HG := Lib.hid hgrow; clear hown hgrow))
      obtain ⟨hol, hor⟩ := HO.out
      obtain ⟨cur, hcur, hcl⟩ : ∃ cur : List Value, w1.heap[w.heap.size]? = some (.cells cur.toArray 42 (0, 0)) ∧ cur.length = S * 4 := by
        rcases hor with ⟨h, _⟩ | ⟨g, cap, cur, h1, _, h3, _, _, h6, _⟩
        · simp at h
        · simp at h1
          obtain ⟨rfl, rfl⟩ := h1
          exact ⟨cur.toList, by simpa using h3, by simpa using h6⟩
      have hB1 : Below w.heap.size w w1 := (Below.refl _ _).grown HG.out (Nat.le_refl _) (fun k hk => by simp at hk)
      have HC := Lib.hid hcur
      have HL2 := Lib.hid hcl
      clear hol hor hcur hcl
      go_loopw [7, 25] (fun s i wr => ∃ k A : Nat, ∃ rest : List Value, k ≤ Ls.length ∧ i = .int .i64 k ∧ s = .int .i64 A ∧ A = sumTo Ls k ∧ Below w.heap.size w wr ∧ rest.length = S * 4 - A * 4 ∧ wr.heap[w.heap.size]? = some (.cells (nodeCells (Ls.take k).flatten ++ rest).toArray 42 (0, 0))) (fun _ i _ => Ls.length - (intOf i).toNat)
      case atStart => exact ⟨0, 0, cur, Nat.zero_le _, rfl, rfl, rfl, hB1, by rw [HL2.out]; omega, by simpa [nodeCells] using HC.out⟩
      case round =>
        obtain ⟨k, A, rest, hk, rfl, rfl, hA, hbel, hrest, hblk⟩ := hrel
        have HB := Lib.hid hblk
        have HR := Lib.hid hrest
        clear hblk hrest
        by_cases hlt : k < Ls.length
        · obtain ⟨p, n, cp, hv, hvl, hnode⟩ := (hL.out.below hbel hb).one k hlt
          have hs1 := sumTo_succ Ls k hlt
          have hs2 : A + n ≤ S := by have := sumTo_le Ls (k + 1); rw [HN.out]; omega
          have HS : Hid (A + n = sumTo Ls (k + 1)) := Lib.hid (by omega)
          have HA := Lib.hid hA
          have HV := Lib.hid hvl
          have HNo := Lib.hid hnode
          obtain ⟨X, hX⟩ : ∃ X, X = nodeCells (Ls.take k).flatten := ⟨_, rfl⟩
          rw [← hX] at HB
          have hXl : X.length = A * 4 := by rw [hX, length_nodeCells, hA]; rfl
          have HX := Lib.hid hX
          have HXl := Lib.hid hXl
          obtain ⟨Y, hY⟩ : ∃ Y, Y = nodeCells (Ls.getD k []) := ⟨_, rfl⟩
          have hYl : Y.length = n * 4 := by rw [hY, length_nodeCells, hvl]
          have HY := Lib.hid hY
          have HYl := Lib.hid hYl
          have hsrc : 0 < n → ∃ ad, p = some ad ∧ ∀ j v, Y[j]? = some v → wr.cell? (ad.add j) = some v := by
            intro h0
            obtain ⟨_, p2, c2, h1, _, _, h4⟩ := hnode
            simp only [Value.slice.injEq] at h1
            obtain ⟨rfl, h2, _⟩ := h1
            obtain ⟨bb, oo, rfl, _, hc⟩ := h4 (by omega)
            exact ⟨_, rfl, by rw [hY]; exact hc.at⟩
          have HSrc := Lib.hid hsrc
          clear hs1 hA hvl hnode hX hXl hY hYl hsrc
          have hAS : A = S ∨ A < S := by omega
          rcases hAS with rfl | hAS
          · go_wp2_with (((with_reducible refine wpList_copy_many rfl (.tmp 32) (.tmp 33) 36 36 rfl 42 4 n Tryd.underlying36 sizeNode (some ⟨w.heap.size, 0, none⟩) p 0 0 n cp ?a7 ?a8 ?c1 w.heap.size (A * 4) (X ++ rest) 42 ?HB Y ?c0 ?c2 ?c3 ?c4 w.heap.size w ?c6 ?c7 ?c5); (case a7 => rfl); (case a8 => rfl); (case c1 => omega); (case HB => exact HB.out); (case c0 => exact HYl.out); (case c2 => intro h; omega); (case c3 => rw [HYl.out, List.length_append, HXl.out, HR.out]; omega); (case c4 => rw [HY.out]; exact nodeCells_one _); (case c6 => exact hbel); (case c7 => exact Nat.le_refl _); intro w3 H3 hbel3))
            go_roundw
            case rel => exact ⟨k + 1, A + n, rest.drop Y.length, by omega, by go_num, by go_num, HS.out, hbel3, by rw [List.length_drop, HR.out, HYl.out]; omega, by
              have h3 := H3.out
              rw [splice_row X rest Y (A * 4) HXl.out.symm, HX.out, HY.out, ← nodeCells_append, ← take_flat Ls k hlt] at h3
              rw [HY.out]
              exact h3⟩
            case measure => simp [intOf]; omega
          · go_wp2_with (((with_reducible refine wpList_copy_many rfl (.tmp 32) (.tmp 33) 36 36 rfl 42 4 n Tryd.underlying36 sizeNode (some ⟨w.heap.size, A * 4, none⟩) p (S - A) (S - A) n cp ?za7 ?za8 ?zc1 w.heap.size (A * 4) (X ++ rest) 42 ?zHB Y ?zc0 ?zc2 ?zc3 ?zc4 w.heap.size w ?zc6 ?zc7 ?zc5); (case za7 => rfl); (case za8 => rfl); (case zc1 => omega); (case zHB => exact HB.out); (case zc0 => exact HYl.out); (case zc2 => intro h9; exact ⟨rfl, HSrc.out h9⟩); (case zc3 => rw [HYl.out, List.length_append, HXl.out, HR.out]; omega); (case zc4 => rw [HY.out]; exact nodeCells_one _); (case zc6 => exact hbel); (case zc7 => exact Nat.le_refl _); intro w3 H3 hbel3))
            go_roundw
            case rel => exact ⟨k + 1, A + n, rest.drop Y.length, by omega, by go_num, by go_num, HS.out, hbel3, by rw [List.length_drop, HR.out, HYl.out]; omega, by
              have h3 := H3.out
              rw [splice_row X rest Y (A * 4) HXl.out.symm, HX.out, HY.out, ← nodeCells_append, ← take_flat Ls k hlt] at h3
              rw [HY.out]
              exact h3⟩
            case measure => simp [intOf]; omega
        · obtain rfl : k = Ls.length := by omega
          have hAS : A = S := by rw [hA, sumTo_all, HN.out]
          have hr0 : rest = [] := List.eq_nil_of_length_eq_zero (by rw [HR.out]; omega)
          have HA := Lib.hid hAS
          have H0 := Lib.hid hr0
          clear hA hAS hr0
          go_wp2
          go_ret
          refine ⟨_, rfl, ?_, hbel⟩
          have hb4 := HB.out
          rw [H0.out, List.append_nil, List.take_length] at hb4
          refine ⟨length_nodeCells _, _, S, by rw [HN.out]; rfl, by rw [HN.out]; exact Nat.le_refl _, by unfold maxLen; omega, fun _ => ⟨_, _, rfl, (Array.getElem?_eq_some_iff.1 hb4).1, ?_⟩⟩
          intro j u hj
          simp [World.cell?, hb4]
          simpa using hj
end Go.Proofs.YtncifeeinogcnaaDoor
/- tree.Sub, tree.Make, tree.Put. -/
namespace Go.Proofs.YtncifeeinogcnaaDoor
open Go.RowKit Go.Proofs.TreeMath
theorem lists_new (w : World) (vs : List Value) (t : TypeId) (Ls : List (List Nd)) (hl : vs.length = Ls.length) (h : ∀ i, i < Ls.length → NodesAt w (vs.getD i default) (Ls.getD i [])) :
    Lists (w.alloc (.cells vs.toArray t)) w.heap.size 0 Ls := by
  intro i hi
  refine ⟨vs.getD i default, ?_, (h i hi).below ((Below.refl _ _).alloc (Nat.le_refl _) _)⟩
  have h1 : (w.alloc (.cells vs.toArray t)).heap[w.heap.size]? = some (.cells vs.toArray t (0, 0)) := by
    show (w.heap.push _)[w.heap.size]? = _
    simp
  unfold World.cell?
  simp only [h1]
  simp [List.getD_eq_getElem?_getD, List.getElem?_eq_getElem (show i < vs.length by omega)]
theorem lists_one (w : World) (v : Value) (t : TypeId) (ns : List Nd) (h : NodesAt w v ns) : Lists (w.alloc (.cells #[v] t)) w.heap.size 0 [ns] :=
  lists_new w [v] t [ns] rfl fun i hi => by
    obtain rfl : i = 0 := by simpa using hi
    exact h
theorem nodes_slice {w : World} {v : Value} {ns : List Nd} (h : NodesAt w v ns) (hp : 0 < ns.length) : ∃ b off c, v = .slice (some ⟨b, off, none⟩) ns.length c ∧ ns.length ≤ c ∧ c ≤ 9223372036854775807 ∧ b < w.heap.size ∧ CellsIn w b off (nodeCells ns) := by
  obtain ⟨_, p, c, rfl, h1, h2, h4⟩ := h
  obtain ⟨b, off, rfl, h5, h6⟩ := h4 (by omega)
  exact ⟨b, off, c, rfl, h1, by unfold maxLen at h2; omega, h5, h6⟩
theorem Lists.drew {w : World} {b off : Nat} {Ls : List (List Nd)} (h : Lists w b off Ls) : Lists w.drew b off Ls := by
  intro i hi
  obtain ⟨v, h1, h2⟩ := h i hi
  exact ⟨v, h1, h2.below (Below.refl _ _).drew⟩
end Go.Proofs.YtncifeeinogcnaaDoor
