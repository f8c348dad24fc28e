/- Texts of this seat, one behind the other: Join, Sub, Make, LxMath, LxDigs. -/
import Derived.Test.YtncifeeinogcnaaGreatDoorKn02
import Derived.Deep.RegionWith
import Derived.RowKit
import Derived.IntWalk
import Derived.Laws.BytesArg
/- Lists of nodes, one after the other: tree.join. -/
set_option maxRecDepth 100000
namespace Go.Proofs.YtncifeeinogcnaaGreatDoor
open Go.RowKit Go.Proofs.TreeMath
/-- How many nodes the first k lists hold. -/
def sumTo (Ls : List (List Nd)) (k : Nat) : Nat := (Ls.take k).flatten.length
theorem sumTo_succ (Ls : List (List Nd)) (k : Nat) (h : k < Ls.length) : sumTo Ls (k + 1) = sumTo Ls k + (Ls.getD k []).length := by
  unfold sumTo
  rw [List.take_succ_eq_append_getElem h, List.flatten_append, List.length_append, List.getD_eq_getElem?_getD, List.getElem?_eq_getElem h]
  simp
theorem sumTo_le (Ls : List (List Nd)) (k : Nat) : sumTo Ls k ≤ Ls.flatten.length := by
  unfold sumTo
  have h := congrArg (fun x => (List.flatten x).length) (List.take_append_drop k Ls)
  simp only [List.flatten_append, List.length_append] at h
  omega
theorem sumTo_all (Ls : List (List Nd)) : sumTo Ls Ls.length = Ls.flatten.length := by unfold sumTo; rw [List.take_length]
/-- The lists lie in the world, the slice that leads to each in its cell. -/
def Lists (w : World) (b off : Nat) (Ls : List (List Nd)) : Prop := ∀ i, i < Ls.length → ∃ v, w.cell? ⟨b, off + i, none⟩ = some v ∧ NodesAt w v (Ls.getD i [])
theorem Lists.below {w w' : World} {b off : Nat} {Ls : List (List Nd)} (h : Lists w b off Ls) (hb : Below w.heap.size w w') (hbk : b < w.heap.size) : Lists w' b off Ls := by
  intro i hi
  obtain ⟨v, h1, h2⟩ := h i hi
  exact ⟨v, (hb.cell (p := ⟨b, off + i, none⟩) hbk).trans h1, h2.below hb⟩
theorem Lists.one {w : World} {b off : Nat} {Ls : List (List Nd)} (h : Lists w b off Ls) (k : Nat) (hk : k < Ls.length) : ∃ (p : Option Addr) (n c : Nat), w.cell? ⟨b, off + k, none⟩ = some (.slice p n c) ∧ n = (Ls.getD k []).length ∧ NodesAt w (.slice p n c) (Ls.getD k []) := by
  obtain ⟨v, h1, h2⟩ := h k hk
  obtain ⟨_, p, c, hv, _⟩ := id h2
  exact ⟨p, _, c, hv ▸ h1, rfl, hv ▸ h2⟩
theorem sizeNode : (Tryz.prog.info? 58).map (·.size) = some 4 := by kernel_rfl
theorem splice_row (X rest cs : List Value) (off : Nat) (h : off = X.length) : splice (X ++ rest) off cs = (X ++ cs) ++ rest.drop cs.length := by
  subst h
  unfold splice
  rw [List.take_left, List.drop_append]
  simp [List.append_assoc]
theorem take_flat (Ls : List (List Nd)) (k : Nat) (h : k < Ls.length) : (Ls.take (k + 1)).flatten = (Ls.take k).flatten ++ Ls.getD k [] := by
  rw [List.take_succ_eq_append_getElem h, List.flatten_append, List.getD_eq_getElem?_getD, List.getElem?_eq_getElem h]
  simp
set_option maxHeartbeats 2000000 in
theorem join_any (b off c : Nat) (Ls : List (List Nd)) (w : World) (hb : b < w.heap.size) (hL : Hid (Lists w b off Ls)) (hn : Ls.flatten.length ≤ 1000000) (hc : Ls.length ≤ 5000) :
    Calls Tryz.prog 122 #[.slice (some ⟨b, off, none⟩) Ls.length c] w (NRet w Ls.flatten) := by
  obtain ⟨i0, hi, hz0, hz1, hz2⟩ := infoNode
  have HI := Lib.hid (And.intro hi (And.intro hz0 (And.intro hz1 hz2)))
  clear hi hz0 hz1 hz2
  obtain ⟨N, hN⟩ : ∃ N, N = Ls.flatten.length := ⟨_, rfl⟩
  have hn' : N ≤ 1000000 := by omega
  have HN := Lib.hid hN
  clear hN hn
  go_enter Tryz.func122, Tryz.ntmps122
  go_wp2
  go_loop [3, 12] (fun s i => ∃ k S : Nat, k ≤ Ls.length ∧ i = .int .i64 k ∧ s = .int .i64 S ∧ S = sumTo Ls k) (fun _ i => Ls.length - (intOf i).toNat)
  case atStart => exact ⟨0, 0, Nat.zero_le _, rfl, rfl, rfl⟩
  case round =>
    obtain ⟨k, S, hk, rfl, rfl, hS⟩ := hrel
    by_cases hlt : k < Ls.length
    · obtain ⟨p, n, cp, hv, hvl, _⟩ := hL.out.one k hlt
      have hs1 := sumTo_succ Ls k hlt
      have hs2 : S + n ≤ N := by have := sumTo_le Ls (k + 1); rw [HN.out]; omega
      have HS : Hid (S + n = sumTo Ls (k + 1)) := Lib.hid (by omega)
      clear hs1 hS hvl
      go_wp2
      go_round
      case rel => exact ⟨k + 1, S + n, by omega, by go_num, by go_num, HS.out⟩
      case measure => simp [intOf]; omega
    · obtain rfl : S = N := by rw [hS, HN.out, show k = Ls.length by omega, sumTo_all]
      clear hS
      go_wp2_with ((at_make; refine wpList_make_full _ rfl _ _ 22 rfl w.heap.size 58 i0 zeroNode 4 Tryz.underlying22 HI.out.1 HI.out.2.1 HI.out.2.2.1 .i64 .i64 _ _ S rfl rfl rfl rfl (by rw [HI.out.2.2.2]; omega) (by unfold maxLen; omega) (Nat.le_refl _) ?_; intro w1 hown hgrow; have HO := Lib.hid hown; have HG := Lib.hid hgrow; clear hown hgrow))
      obtain ⟨hol, hor⟩ := HO.out
      obtain ⟨cur, hcur, hcl⟩ : ∃ cur : List Value, w1.heap[w.heap.size]? = some (.cells cur.toArray 58 (0, 0)) ∧ cur.length = S * 4 := by
        rcases hor with ⟨h, _⟩ | ⟨g, cap, cur, h1, _, h3, _, _, h6, _⟩
        · simp at h
        · simp at h1
          obtain ⟨rfl, rfl⟩ := h1
          exact ⟨cur.toList, by simpa using h3, by simpa using h6⟩
      have hB1 : Below w.heap.size w w1 := (Below.refl _ _).grown HG.out (Nat.le_refl _) (fun k hk => by simp at hk)
      have HC := Lib.hid hcur
      have HL2 := Lib.hid hcl
      clear hol hor hcur hcl
      go_loopw [7, 25] (fun s i wr => ∃ k A : Nat, ∃ rest : List Value, k ≤ Ls.length ∧ i = .int .i64 k ∧ s = .int .i64 A ∧ A = sumTo Ls k ∧ Below w.heap.size w wr ∧ rest.length = S * 4 - A * 4 ∧ wr.heap[w.heap.size]? = some (.cells (nodeCells (Ls.take k).flatten ++ rest).toArray 58 (0, 0))) (fun _ i _ => Ls.length - (intOf i).toNat)
      case atStart => exact ⟨0, 0, cur, Nat.zero_le _, rfl, rfl, rfl, hB1, by rw [HL2.out]; omega, by simpa [nodeCells] using HC.out⟩
      case round =>
        obtain ⟨k, A, rest, hk, rfl, rfl, hA, hbel, hrest, hblk⟩ := hrel
        have HB := Lib.hid hblk
        have HR := Lib.hid hrest
        clear hblk hrest
        by_cases hlt : k < Ls.length
        · obtain ⟨p, n, cp, hv, hvl, hnode⟩ := (hL.out.below hbel hb).one k hlt
          have hs1 := sumTo_succ Ls k hlt
          have hs2 : A + n ≤ S := by have := sumTo_le Ls (k + 1); rw [HN.out]; omega
          have HS : Hid (A + n = sumTo Ls (k + 1)) := Lib.hid (by omega)
          have HA := Lib.hid hA
          have HV := Lib.hid hvl
          have HNo := Lib.hid hnode
          obtain ⟨X, hX⟩ : ∃ X, X = nodeCells (Ls.take k).flatten := ⟨_, rfl⟩
          rw [← hX] at HB
          have hXl : X.length = A * 4 := by rw [hX, length_nodeCells, hA]; rfl
          have HX := Lib.hid hX
          have HXl := Lib.hid hXl
          obtain ⟨Y, hY⟩ : ∃ Y, Y = nodeCells (Ls.getD k []) := ⟨_, rfl⟩
          have hYl : Y.length = n * 4 := by rw [hY, length_nodeCells, hvl]
          have HY := Lib.hid hY
          have HYl := Lib.hid hYl
          have hsrc : 0 < n → ∃ ad, p = some ad ∧ ∀ j v, Y[j]? = some v → wr.cell? (ad.add j) = some v := by
            intro h0
            obtain ⟨_, p2, c2, h1, _, _, h4⟩ := hnode
            simp only [Value.slice.injEq] at h1
            obtain ⟨rfl, h2, _⟩ := h1
            obtain ⟨bb, oo, rfl, _, hc⟩ := h4 (by omega)
            exact ⟨_, rfl, by rw [hY]; exact hc.at⟩
          have HSrc := Lib.hid hsrc
          clear hs1 hA hvl hnode hX hXl hY hYl hsrc
          have hAS : A = S ∨ A < S := by omega
          rcases hAS with rfl | hAS
          · go_wp2_with (((with_reducible refine wpList_copy_many rfl (.tmp 32) (.tmp 33) 22 22 rfl 58 4 n Tryz.underlying22 sizeNode (some ⟨w.heap.size, 0, none⟩) p 0 0 n cp ?a7 ?a8 ?c1 w.heap.size (A * 4) (X ++ rest) 58 ?HB Y ?c0 ?c2 ?c3 ?c4 w.heap.size w ?c6 ?c7 ?c5); (case a7 => rfl); (case a8 => rfl); (case c1 => omega); (case HB => exact HB.out); (case c0 => exact HYl.out); (case c2 => intro h; omega); (case c3 => rw [HYl.out, List.length_append, HXl.out, HR.out]; omega); (case c4 => rw [HY.out]; exact nodeCells_one _); (case c6 => exact hbel); (case c7 => exact Nat.le_refl _); intro w3 H3 hbel3))
            go_roundw
            case rel => exact ⟨k + 1, A + n, rest.drop Y.length, by omega, by go_num, by go_num, HS.out, hbel3, by rw [List.length_drop, HR.out, HYl.out]; omega, by
              have h3 := H3.out
              rw [splice_row X rest Y (A * 4) HXl.out.symm, HX.out, HY.out, ← nodeCells_append, ← take_flat Ls k hlt] at h3
              rw [HY.out]
              exact h3⟩
            case measure => simp [intOf]; omega
          · go_wp2_with (((with_reducible refine wpList_copy_many rfl (.tmp 32) (.tmp 33) 22 22 rfl 58 4 n Tryz.underlying22 sizeNode (some ⟨w.heap.size, A * 4, none⟩) p (S - A) (S - A) n cp ?za7 ?za8 ?zc1 w.heap.size (A * 4) (X ++ rest) 58 ?zHB Y ?zc0 ?zc2 ?zc3 ?zc4 w.heap.size w ?zc6 ?zc7 ?zc5); (case za7 => rfl); (case za8 => rfl); (case zc1 => omega); (case zHB => exact HB.out); (case zc0 => exact HYl.out); (case zc2 => intro h9; exact ⟨rfl, HSrc.out h9⟩); (case zc3 => rw [HYl.out, List.length_append, HXl.out, HR.out]; omega); (case zc4 => rw [HY.out]; exact nodeCells_one _); (case zc6 => exact hbel); (case zc7 => exact Nat.le_refl _); intro w3 H3 hbel3))
            go_roundw
            case rel => exact ⟨k + 1, A + n, rest.drop Y.length, by omega, by go_num, by go_num, HS.out, hbel3, by rw [List.length_drop, HR.out, HYl.out]; omega, by
              have h3 := H3.out
              rw [splice_row X rest Y (A * 4) HXl.out.symm, HX.out, HY.out, ← nodeCells_append, ← take_flat Ls k hlt] at h3
              rw [HY.out]
              exact h3⟩
            case measure => simp [intOf]; omega
        · obtain rfl : k = Ls.length := by omega
          have hAS : A = S := by rw [hA, sumTo_all, HN.out]
          have hr0 : rest = [] := List.eq_nil_of_length_eq_zero (by rw [HR.out]; omega)
          have HA := Lib.hid hAS
          have H0 := Lib.hid hr0
          clear hA hAS hr0
          go_wp2
          go_ret
          refine ⟨_, rfl, ?_, hbel⟩
          have hb4 := HB.out
          rw [H0.out, List.append_nil, List.take_length] at hb4
          refine ⟨length_nodeCells _, _, S, by rw [HN.out]; rfl, by rw [HN.out]; exact Nat.le_refl _, by unfold maxLen; omega, fun _ => ⟨_, _, rfl, (Array.getElem?_eq_some_iff.1 hb4).1, ?_⟩⟩
          intro j u hj
          simp [World.cell?, hb4]
          simpa using hj
end Go.Proofs.YtncifeeinogcnaaGreatDoor
/- tree.Sub, tree.Make, tree.Put. -/
namespace Go.Proofs.YtncifeeinogcnaaGreatDoor
open Go.RowKit Go.Proofs.TreeMath
theorem lists_new (w : World) (vs : List Value) (t : TypeId) (Ls : List (List Nd)) (hl : vs.length = Ls.length) (h : ∀ i, i < Ls.length → NodesAt w (vs.getD i default) (Ls.getD i [])) :
    Lists (w.alloc (.cells vs.toArray t)) w.heap.size 0 Ls := by
  intro i hi
  refine ⟨vs.getD i default, ?_, (h i hi).below ((Below.refl _ _).alloc (Nat.le_refl _) _)⟩
  have h1 : (w.alloc (.cells vs.toArray t)).heap[w.heap.size]? = some (.cells vs.toArray t (0, 0)) := by
    show (w.heap.push _)[w.heap.size]? = _
    simp
  unfold World.cell?
  simp only [h1]
  simp [List.getD_eq_getElem?_getD, List.getElem?_eq_getElem (show i < vs.length by omega)]
theorem lists_one (w : World) (v : Value) (t : TypeId) (ns : List Nd) (h : NodesAt w v ns) : Lists (w.alloc (.cells #[v] t)) w.heap.size 0 [ns] :=
  lists_new w [v] t [ns] rfl fun i hi => by
    obtain rfl : i = 0 := by simpa using hi
    exact h
theorem nodes_slice {w : World} {v : Value} {ns : List Nd} (h : NodesAt w v ns) (hp : 0 < ns.length) : ∃ b off c, v = .slice (some ⟨b, off, none⟩) ns.length c ∧ ns.length ≤ c ∧ c ≤ 9223372036854775807 ∧ b < w.heap.size ∧ CellsIn w b off (nodeCells ns) := by
  obtain ⟨_, p, c, rfl, h1, h2, h4⟩ := h
  obtain ⟨b, off, rfl, h5, h6⟩ := h4 (by omega)
  exact ⟨b, off, c, rfl, h1, by unfold maxLen at h2; omega, h5, h6⟩
theorem Lists.drew {w : World} {b off : Nat} {Ls : List (List Nd)} (h : Lists w b off Ls) : Lists w.drew b off Ls := by
  intro i hi
  obtain ⟨v, h1, h2⟩ := h i hi
  exact ⟨v, h1, h2.below (Below.refl _ _).drew⟩
end Go.Proofs.YtncifeeinogcnaaGreatDoor
/- tree.Make. -/
set_option maxRecDepth 100000
namespace Go.Proofs.YtncifeeinogcnaaGreatDoor
open Go.RowKit Go.Proofs.TreeMath
def Nd.val (x : Nd) : Value := .agg #[.int .i64 x.kind, .string x.text, .int .i64 x.num, .int .i64 x.kids]
def makeN (x : Nd) (Ls : List (List Nd)) : List Nd := { x with kids := Ls.length } :: Ls.flatten
theorem node_new (w : World) (x : Nd) : NodesAt (w.alloc (.cells #[.int .i64 x.kind, .string x.text, .int .i64 x.num, .int .i64 x.kids] 58)) (.slice (some ⟨w.heap.size, 0, none⟩) 1 1) [x] := by
  refine ⟨rfl, _, _, rfl, Nat.le_refl _, by unfold maxLen; omega, fun _ => ⟨_, _, rfl, by simp, ?_⟩⟩
  intro j u hj
  have h1 : (w.alloc (.cells #[.int .i64 x.kind, .string x.text, .int .i64 x.num, .int .i64 x.kids] 58)).heap[w.heap.size]? = some (.cells #[.int .i64 x.kind, .string x.text, .int .i64 x.num, .int .i64 x.kids] 58 (0, 0)) := by
    show (w.heap.push _)[w.heap.size]? = _
    simp
  unfold World.cell?
  simp only [h1]
  have hj' : [Value.int .i64 x.kind, .string x.text, .int .i64 x.num, .int .i64 x.kids][j]? = some u := by simpa [nodeCells, Nd.cells] using hj
  simpa using hj'
set_option maxHeartbeats 1000000 in
theorem make_zero (k m s : Int) (t : ByteArray) (p : Option Addr) (c : Nat) (w : World) :
    Calls Tryz.prog 95 #[.agg #[.int .i64 k, .string t, .int .i64 m, .int .i64 s], .slice p 0 c] w (NRet w [⟨k, t, m, 0⟩]) := by
  rcases p with _ | a <;>
  · go_enter Tryz.func95, Tryz.ntmps95
    go_wp2_with fail
    refine (join_any (w.heap.size + 1 + 1) 0 1 [[⟨k, t, m, 0⟩]] _ (by simp) (by
      have h := lists_one ((w.alloc (.cells #[.int .i64 k, .string t, .int .i64 m, .int .i64 0] 58)).alloc (.cells #[.int .i64 k, .string t, .int .i64 m, .int .i64 0] 58)) (.slice (some ⟨w.heap.size + 1, 0, none⟩) 1 1) 22 [⟨k, t, m, 0⟩] (by
        have := node_new (w.alloc (.cells #[.int .i64 k, .string t, .int .i64 m, .int .i64 0] 58)) ⟨k, t, m, 0⟩
        simpa using this)
      show Lists _ _ _ _
      simpa using h) (by simp) (by simp)).mono ?_
    rintro e w1 ⟨v', rfl, hv, hb1⟩
    have HV := Lib.hid hv
    clear hv
    go_wp2_with fail
    go_ret
    refine ⟨_, rfl, ?_, ((((Below.refl _ _).alloc (Nat.le_refl _) _).alloc (by simp) _).alloc (by simp; omega) _).trans (hb1.mono (by simp; omega))⟩
    have h9 := HV.out
    simp only [List.flatten_cons, List.flatten_nil, List.append_nil] at h9
    exact h9
theorem lists_owns {w : World} {base n : Nat} {v : Value} {vs : List Value} {Ls : List (List Nd)} (h : w.ownsRow base 22 1 v n vs) (hn : n = Ls.length) (hp : 0 < n) (hL : ∀ i, i < Ls.length → NodesAt w (vs.getD i default) (Ls.getD i [])) :
    ∃ b c, v = .slice (some ⟨b, 0, none⟩) Ls.length c ∧ b < w.heap.size ∧ Lists w b 0 Ls := by
  obtain ⟨hl, p, c, rfl, _, _, h4⟩ := SliceAt.of_owns h
  subst hn
  rcases h.2 with ⟨_, h0⟩ | ⟨g, cap, cur, hv, _, _, _⟩
  · omega
  · simp only [Value.slice.injEq] at hv
    obtain ⟨rfl, _, rfl⟩ := hv
    obtain ⟨b, off, hh, hb, hc⟩ := h4 (by omega)
    simp only [Option.some.injEq, Addr.mk.injEq] at hh
    obtain ⟨rfl, rfl, _⟩ := hh
    refine ⟨g, c, rfl, hb, fun i hi => ⟨vs.getD i default, hc i _ ?_, hL i hi⟩⟩
    rw [List.getD_eq_getElem?_getD, List.getElem?_eq_getElem (by omega)]
    rfl
theorem infoSlice : ∃ i, Tryz.prog.info? 22 = some i ∧ i.zero = some (.slice none 0 0) ∧ i.size = 1 ∧ i.bytes = 24 := info_of' (by kernel_rfl)
theorem vs_one {w : World} {vs : List Value} {Ls : List (List Nd)} (hl : vs.length = Ls.length) (h : ∀ i, i < Ls.length → NodesAt w (vs.getD i default) (Ls.getD i [])) : ∀ u ∈ vs, u.oneCell' = true := by
  intro u hu
  obtain ⟨i, hi, rfl⟩ := List.getElem_of_mem hu
  have := h i (by omega)
  rw [List.getD_eq_getElem?_getD, List.getElem?_eq_getElem hi] at this
  obtain ⟨_, p, c, hv, _⟩ := this
  simp only [Option.getD_some] at hv
  rw [hv]
  rfl
theorem owns_lit (w : World) (base : Nat) (x : Value) (t : TypeId) (h : base ≤ w.heap.size) : (w.alloc (.cells #[x] t)).ownsRow base t 1 (.slice (some ⟨w.heap.size, 0, none⟩) 1 1) 1 [x] := by
  refine ⟨rfl, .inr ⟨w.heap.size, 1, #[x], rfl, h, ?_, Nat.le_refl _, by unfold maxLen; omega, rfl, rfl⟩⟩
  show (w.heap.push _)[w.heap.size]? = _
  simp
theorem below3 (w : World) (a b c : Obj) : Below w.heap.size w (((w.alloc a).alloc b).alloc c) := (((Below.refl _ _).alloc (Nat.le_refl _) _).alloc (by simp) _).alloc (by simp; omega) _
theorem below2 (w : World) (a b : Obj) : Below w.heap.size w ((w.alloc a).alloc b) := ((Below.refl _ _).alloc (Nat.le_refl _) _).alloc (by simp) _
set_option maxHeartbeats 2000000 in
theorem make_some (k m s : Int) (t : ByteArray) (b off n c : Nat) (vs : List Value) (Ls : List (List Nd)) (w : World) (hb : b < w.heap.size) (hc : Hid (CellsIn w b off vs)) (hl : Hid (vs.length = n)) (hL : Hid (Ls.length = n)) (hn0 : 0 < n) (hn : n ≤ 4000) (hf : Hid (Ls.flatten.length ≤ 900000)) (hv : Hid (∀ i, i < Ls.length → NodesAt w (vs.getD i default) (Ls.getD i []))) :
    Calls Tryz.prog 95 #[.agg #[.int .i64 k, .string t, .int .i64 m, .int .i64 s], .slice (some ⟨b, off, none⟩) n c] w (NRet w (makeN ⟨k, t, m, 0⟩ Ls)) := by
  obtain ⟨i0, hi, hz0, hz1, hz2⟩ := infoSlice
  have HI := Lib.hid (And.intro hi (And.intro hz0 (And.intro hz1 hz2)))
  clear hi hz0 hz1 hz2
  go_enter Tryz.func95, Tryz.ntmps95
  go_wp2_with ((at_builtin; refine wpList_append_own _ rfl _ _ 50 rfl w.heap.size 22 i0 (.slice none 0 0) 1 24 Tryz.underlying50 HI.out.1 HI.out.2.1 HI.out.2.2.1 HI.out.2.2.2 rfl (by decide) (.slice (some ⟨w.heap.size + 1 + 1, 0, none⟩) 1 1) 1 [.slice (some ⟨w.heap.size + 1, 0, none⟩) 1 1] rfl ?q1 ⟨b, off, none⟩ n c vs rfl (by rw [hl.out]; omega) ?q2 (vs_one (by rw [hl.out, hL.out]) hv.out) (by unfold maxLen; omega) (by omega) (by simp; omega) ?_; (case q1 => have := owns_lit ((w.alloc (.cells #[.int .i64 k, .string t, .int .i64 m, .int .i64 n] 58)).alloc (.cells #[.int .i64 k, .string t, .int .i64 m, .int .i64 n] 58)) w.heap.size (.slice (some ⟨w.heap.size + 1, 0, none⟩) 1 1) 22 (by simp; omega); simpa using this); (case q2 => exact (hc.out.kept ((below3 w _ _ _).block b hb)).at); intro v' w3 hown' hgrow hnil; have HO3 := Lib.hid hown'; have HG := Lib.hid hgrow; clear hown' hgrow hnil))
  have hnode := node_new (w.alloc (.cells #[.int .i64 k, .string t, .int .i64 m, .int .i64 n] 58)) ⟨k, t, m, n⟩
  have hbel3 : Below (w.heap.size + 1 + 1) ((w.alloc (.cells #[.int .i64 k, .string t, .int .i64 m, .int .i64 n] 58)).alloc (.cells #[.int .i64 k, .string t, .int .i64 m, .int .i64 n] 58)) w3 :=
    (((Below.refl _ _).alloc (by simp) _)).grown HG.out (by simp) fun q hq => by
      have hq' : some (w.heap.size + 1 + 1) = some q := hq
      simp at hq'
      omega
  have hbelw : Below w.heap.size w w3 := (below2 w _ _).trans (hbel3.mono (by omega))
  obtain ⟨g, c3, hv3, hg3, hL3⟩ := lists_owns (Ls := [⟨k, t, m, n⟩] :: Ls) HO3.out (by rw [List.length_cons, hL.out]; omega) (by omega) (fun i hi => by
    cases i with
    | zero =>
      refine NodesAt.below ?_ (show Below ((w.alloc (.cells #[.int .i64 k, .string t, .int .i64 m, .int .i64 n] 58)).alloc (.cells #[.int .i64 k, .string t, .int .i64 m, .int .i64 n] 58)).heap.size _ w3 by simpa using hbel3)
      simpa using hnode
    | succ i =>
      have := (hv.out i (by simpa using hi)).below hbelw
      simpa using this)
  have HL3 := Lib.hid hL3
  clear hL3 hnode
  subst hv3
  go_wp2_with fail
  refine (join_any g 0 c3 ([⟨k, t, m, n⟩] :: Ls) w3 hg3 HL3.out (by simp; have := hf.out; simp at this; omega) (by simp; rw [hL.out]; omega)).mono ?_
  rintro e w4 ⟨v', rfl, hv', hb4⟩
  have HV := Lib.hid hv'
  clear hv'
  go_wp2_with fail
  go_ret
  refine ⟨_, rfl, ?_, hbelw.trans (hb4.mono hbelw.size)⟩
  have h9 := HV.out
  unfold makeN
  rw [hL.out]
  simp only [List.flatten_cons, List.singleton_append] at h9
  exact h9
def sumLen (Ls : List (List Nd)) : Prop := Ls.length ≤ 4000 ∧ Ls.flatten.length ≤ 900000
theorem make_any (x : Nd) (v : Value) (Ls : List (List Nd)) (w : World) (h : ListsAt w v Ls) (hs : sumLen Ls) : Calls Tryz.prog 95 #[x.val, v] w (NRet w (makeN x Ls)) := by
  obtain ⟨k, t, m, s⟩ := x
  obtain ⟨vs, ⟨hl, p, c, rfl, _, _, h4⟩, hv⟩ := h
  by_cases h0 : Ls.length = 0
  · obtain rfl : Ls = [] := List.eq_nil_of_length_eq_zero h0
    exact make_zero k m s t p c w
  · obtain ⟨b, off, rfl, hb, hc⟩ := h4 h0
    exact make_some k m s t b off Ls.length c vs Ls w hb hc (Lib.hid (by simpa using hl)) rfl (by omega) hs.1 hs.2 hv
end Go.Proofs.YtncifeeinogcnaaGreatDoor
/- Plain arithmetic for layer 1 (word): 'wr n', the number of the language that differs from n by a multiple of two to the 63, and what wrapping of 64 bits does to it. No walk here. -/
namespace Go.Proofs.YtncifeeinogcnaaGreatDoor.Lx
open Go.RowKit

def wr (n : Int) : Int := (n + 4611686018427387904) % 9223372036854775808 - 4611686018427387904

def u64w (n : Int) : Int := n % 18446744073709551616

theorem wrap64_eq (n : Int) : wrap64 n = (n + 9223372036854775808) % 18446744073709551616 - 9223372036854775808 := by
  unfold wrap64; omega
theorem wr_shift (n : Int) : wrap64 (n * 2) / 2 = wr n := by rw [wrap64_eq]; unfold wr; omega
theorem wr_u64w (n : Int) : wr (u64w n) = wr n := by unfold u64w wr; omega
theorem u64w_eq (n : Int) : IntKind.u64.wrap n = u64w n := by unfold u64w; simp [IntKind.wrap, IntKind.bits, IntKind.signed]
end Go.Proofs.YtncifeeinogcnaaGreatDoor.Lx
/- Plain lists of digits: the decimal digits of a number from 0 on, as bytes, and the number that a list of digits is. No walk here. -/
namespace Go.Proofs.YtncifeeinogcnaaGreatDoor.Lx

/-- The decimal digits of n, at most f of them, each as its byte. -/
def dg : Nat → Int → List Int
  | 0, _ => []
  | f + 1, n => if n < 10 then [48 + n] else dg f (n / 10) ++ [48 + n % 10]

def val (l : List Int) : Int := l.foldl (fun m d => 10 * m + (d - 48)) 0

/-- The text of a number of the language, as the list of its bytes. -/
def shl (v : Int) : List Int := if v < 0 then 126 :: dg 19 (-v) else dg 19 v
def shw (v : Int) : ByteArray := strOfNums (shl v)
end Go.Proofs.YtncifeeinogcnaaGreatDoor.Lx
