/- Texts of this seat, one behind the other: ParO, ParQ. -/
import Derived.Test.YtggjckalmlploaaGreatDoorKn32
import Derived.Deep.RegionLaw
import Derived.ScopeJumps
/- slices.Repeat at one node. -/
set_option maxRecDepth 100000
namespace Go
open Go.RowKit
/-- copy as one step of a region that draws. -/
theorem step_copy_many {P : Program} {ops : Array Oper} {o : Oper} {a : Act} {w : World} {K : Act → World → Prop} {Q : Exit → Act → World → Prop} {E : Prop} (hgd : o.guard = none) (d s : Operand) (dT sT : TypeId)
    (ho : o.op = .call { callee := .builtin .copy, args := #[d, s], argTypes := #[dT, sT] }) (elem : TypeId) (k m : Nat) (hu : P.underlying dT = some (.slice elem)) (hsz : (P.info? elem).map (·.size) = some k)
    (dp sp : Option Addr) (dLen dCap sLen sCap : Nat) (hd : a.eval d = .slice dp dLen dCap) (hs : a.eval s = .slice sp sLen sCap) (hm : m = min sLen dLen)
    (g off : Nat) (cur : List Value) (t : TypeId) (hg : w.heap[g]? = some (.cells cur.toArray t (0, 0))) (cs : List Value) (hn : cs.length = m * k)
    (hpos : 0 < m → dp = some ⟨g, off, none⟩ ∧ ∃ ad, sp = some ad ∧ ∀ j v, cs[j]? = some v → w.cell? (ad.add j) = some v)
    (hfit : off + cs.length ≤ cur.length) (h1 : ∀ v ∈ cs, v.oneCell' = true) (B : Nat) (w0 : World) (hb : Below B w0 w) (hBg : B ≤ g)
    (h : ∀ w', Hid (w'.heap[g]? = some (.cells (splice cur off cs).toArray t (0, 0))) → Below B w0 w' → K (a.put o.dst (goInt m)) w') :
    if Region.wanted o (yielded ops a.tmps) = true then Oper.wp P o a w K Q else E := by
  have hw : Region.wanted o (yielded ops a.tmps) = true := by simp [Region.wanted, hgd]
  rw [if_pos hw]
  have hrun := run_copy_many (P := P) w dT sT o.type elem k m dp sp dLen dCap sLen sCap hu hsz hm g off cur t hg cs hn hpos hfit h1
  unfold Oper.wp
  simp [execOp, ho, resolve, invoke, builtin, hd, hs, hrun, Result.andThen]
  refine h _ ?_ ?_
  · by_cases h0 : m = 0
    · have hcs : cs = [] := List.eq_nil_of_length_eq_zero (by rw [hn, h0]; simp)
      subst hcs
      rw [if_pos h0]
      show _ = _
      simpa [splice] using hg
    · rw [if_neg h0]
      exact setRow_heap w g _ _ t _ hg
  · by_cases h0 : m = 0
    · rw [if_pos h0]
      exact hb
    · rw [if_neg h0]
      exact below_setRow hb hBg _
end Go
namespace Go.Proofs.YtggjckalmlploaaGreatDoor
open Go.Shelf Go.RowKit Go.Lib Go.Proofs.TreeMath Go.Proofs.LexMath Go.Proofs.FixMath Go.Proofs.ParMath
theorem mul_any (n : Nat) (w : World) (hn : n ≤ 5000) : Calls Tryz.prog 125 #[.int .u64 1, .int .u64 n] w fun e w' => e = .returned (.tuple #[.int .u64 0, .int .u64 n]) ∧ w' = w := by
  have h := Any.bits_Mul mulLays 1 n (by omega) (by omega) w
  refine h.mono ?_
  rintro e w' ⟨rfl, rfl⟩
  have e1 : 1 * n / 18446744073709551616 = 0 := Nat.div_eq_of_lt (by omega)
  have e2 : 1 * n % 18446744073709551616 = n := by rw [Nat.mod_eq_of_lt (by omega), Nat.one_mul]
  rw [e1, e2]
  exact ⟨rfl, rfl⟩
theorem made_row {w : World} {B X n c : Nat} {xs : List Value} (h : w.ownsRow B 37 4 (.slice (some ⟨X, 0, none⟩) n c) n xs) (hc : c = n) : ∃ cur : List Value, w.heap[X]? = some (.cells cur.toArray 37 (0, 0)) ∧ cur.length = n * 4 := by
  obtain ⟨_, hor⟩ := h
  rcases hor with ⟨h, _⟩ | ⟨g, cap, cur, h1, _, h3, _, _, h6, _⟩
  · simp at h
  · simp at h1
    obtain ⟨rfl, rfl⟩ := h1
    subst hc
    exact ⟨cur.toList, by simpa using h3, by simpa using h6⟩
set_option maxHeartbeats 4000000 in
theorem repeat_any (b off c n : Nat) (x : Nd) (w : World) (hb : b < w.heap.size) (hx : CellsIn w b off (nodeCells [x])) (hn : 1 ≤ n) (hn2 : n ≤ 5000) :
    Calls Tryz.prog 94 #[.slice (some ⟨b, off, none⟩) 1 c, .int .i64 n] w (NRetF w (List.replicate n x)) := by
  obtain ⟨i0, hi, hz0, hz1, hz2⟩ := infoNode
  have HI := Lib.hid (And.intro hi (And.intro hz0 (And.intro hz1 hz2)))
  clear hi hz0 hz1 hz2
  have HX := Lib.hid hx
  have MU := Lib.hid (mul_any n w hn2)
  have hneg : ¬ ((n : Int) < 0) := by omega
  have hbig : ¬ ((9223372036854775807 : Int) < (n : Int)) := by omega
  clear hx
  go_enter Tryz.func94, Tryz.ntmps94
  go_wp2_with fail
  refine MU.out.mono ?_
  rintro e w1 ⟨rfl, rfl⟩

  go_wp2_with (first
    | (at_make; refine wpList_make_full _ rfl _ _ 25 rfl w1.heap.size 37 i0 zeroNode 4 Tryz.underlying25 HI.out.1 HI.out.2.1 HI.out.2.2.1 .i64 .i64 _ _ n rfl rfl rfl rfl (by rw [HI.out.2.2.2]; omega) (by unfold maxLen; omega) (Nat.le_refl _) ?_; intro w2 hown hgrow; (obtain ⟨cur, hcur, hcl⟩ := made_row hown (by omega)); have hB1 : Below w1.heap.size w1 w2 := (Below.refl _ _).grown hgrow (Nat.le_refl _) (fun k hk => by simp at hk); have HC := Lib.hid hcur; have HL2 := Lib.hid hcl; have HB1 := Lib.hid hB1; have SRC := Lib.hid (show ∀ j v, (nodeCells [x])[j]? = some v → w2.cell? ((⟨b, off, none⟩ : Addr).add j) = some v from (HX.out.kept (hB1.block b hb)).at); clear hcur hcl hB1 hown hgrow)
    | ((with_reducible refine wpList_copy_many rfl (.tmp 31) (.tmp 32) 25 25 rfl 37 4 1 Tryz.underlying25 sizeNode (some ⟨w1.heap.size, 0, none⟩) (some ⟨b, off, none⟩) n n 1 c ?a7 ?a8 ?a9 w1.heap.size 0 cur 37 ?HB (nodeCells [x]) ?c0 ?c2 ?c3 ?c4 w1.heap.size w1 ?c6 ?c7 ?c5); (case a7 => rfl); (case a8 => rfl); (case a9 => omega); (case HB => exact HC.out); (case c0 => rfl); (case c2 => exact fun _ => ⟨rfl, _, rfl, SRC.out⟩); (case c3 => rw [HL2.out, length_nodeCells, List.length_singleton]; omega); (case c4 => exact nodeCells_one _); (case c6 => exact HB1.out); (case c7 => exact Nat.le_refl _); intro w3 H3 hbel3))
  have E3 : Hid (w3.heap[w1.heap.size]? = some (.cells (nodeCells (List.replicate 1 x) ++ cur.drop 4).toArray 37 (0, 0))) := Lib.hid (by
    have h3 := H3.out
    rw [show splice cur 0 (nodeCells [x]) = nodeCells [x] ++ cur.drop 4 from by simp [splice, nodeCells, Nd.cells]] at h3
    exact h3)
  have B3 := Lib.hid hbel3
  clear hbel3
  go_loopw [8] (fun s8 wr => ∃ (k : Nat) (rest : List Value), 1 ≤ k ∧ k ≤ n ∧ s8 = .int .i64 k ∧ Below w1.heap.size w1 wr ∧ rest.length = (n - k) * 4 ∧ wr.heap[w1.heap.size]? = some (.cells (nodeCells (List.replicate k x) ++ rest).toArray 37 (0, 0))) (fun s8 _ => n - (RowKit.intOf s8).toNat)
  case atStart => exact ⟨1, cur.drop 4, Nat.le_refl _, hn, rfl, B3.out, by rw [List.length_drop, HL2.out]; omega, E3.out⟩
  case round =>
    obtain ⟨wo, hwo⟩ : ∃ wo : World, wo = wr := ⟨_, rfl⟩
    subst hwo
    obtain ⟨k, rest, hk1, hkn, rfl, hbel, hrl, hblk⟩ := hrel
    have BEL := Lib.hid hbel
    have BLK := Lib.hid hblk
    have RL := Lib.hid hrl
    clear hbel hblk hrl
    by_cases hlt : k < n
    · have hz1 : (k : Int) < (n : Int) := by omega
      have hz2 : ¬ ((n : Int) < (k : Int)) := by omega
      go_upto_region 9 with fail
      obtain ⟨m, hm⟩ : ∃ m, m = min k (n - k) := ⟨_, rfl⟩
      have hm1 : 1 ≤ m := by omega
      have hm2 : m ≤ k := by omega
      have hm3 : k + m ≤ n := by omega
      have hnk : ¬ n = k := by omega
      have HM := Lib.hid hm
      have CPY := Lib.hid (show ∀ X : World, X.heap[w1.heap.size]? = wo.heap[w1.heap.size]? → ∀ j v, (nodeCells (List.replicate m x))[j]? = some v → X.cell? ((⟨w1.heap.size, 0, none⟩ : Addr).add j) = some v from fun X hX j v hj => by
        rw [Go.WideShapes.add_plain, cell_of_heap (hX.trans BLK.out)]
        have e : List.replicate k x = List.replicate m x ++ List.replicate (k - m) x := by rw [List.replicate_append_replicate]; congr 1; omega
        have hjl := (List.getElem?_eq_some_iff.1 hj).1
        simp only [Nat.zero_add, List.getElem?_toArray]
        rw [e, nodeCells_append, List.append_assoc, List.getElem?_append_left hjl]
        exact hj)
      have REPL := Lib.hid (show ∀ m, (nodeCells (List.replicate m x)).length = m * 4 from fun m => by rw [length_nodeCells, List.length_replicate])
      have FIT := Lib.hid (show k * 4 + (nodeCells (List.replicate m x)).length ≤ (nodeCells (List.replicate k x) ++ rest).length from by rw [List.length_append, REPL.out, REPL.out, RL.out]; omega)
      have WRP := Lib.hid (show IntKind.i64.wrap ((k : Int) + (m : Int)) = ((k + m : Nat) : Int) from by
        simp [IntKind.wrap, IntKind.bits, IntKind.signed]
        omega)
      clear hm
      go_region_law ((refine step_copy_many (by rfl) (.tmp 41) (.tmp 44) 25 25 (by rfl) 37 4 m Tryz.underlying25 sizeNode (some ⟨w1.heap.size, k * 4, none⟩) (some ⟨w1.heap.size, 0, none⟩) (n - k) (n - k) k n ?ya7 ?ya8 HM.out w1.heap.size (k * 4) (nodeCells (List.replicate k x) ++ rest) 37 ?yHB (nodeCells (List.replicate m x)) ?yc0 ?yc2 ?yc3 ?yc4 w1.heap.size w1 ?yc6 ?yc7 ?yc5); (case ya7 => simp [go_sem]); (case ya8 => simp [go_sem]); (case yHB => exact BLK.out); (case yc0 => exact REPL.out m); (case yc2 => exact fun _ => ⟨rfl, _, rfl, CPY.out _ rfl⟩); (case yc3 => exact FIT.out); (case yc4 => exact nodeCells_one _); (case yc6 => exact BEL.out.drew); (case yc7 => exact Nat.le_refl _); intro w4 H4 hbel4)
      all_goals
        have E4 : Hid (w4.heap[w1.heap.size]? = some (.cells (nodeCells (List.replicate (k + m) x) ++ rest.drop (m * 4)).toArray 37 (0, 0))) := Lib.hid (by
          have h4 := H4.out
          rw [splice_row _ _ _ _ (REPL.out k).symm, ← nodeCells_append, List.replicate_append_replicate, REPL.out] at h4
          exact h4)
        have B4 := Lib.hid hbel4
        clear hbel4
        go_wp2_with fail
        go_roundw
        case rel => exact ⟨k + m, by omega, hm3, WRP.out, B4.out, rest.drop (m * 4), by rw [List.length_drop, RL.out]; omega, E4.out⟩
        case measure => rw [show RowKit.intOf (Value.int IntKind.i64 (IntKind.i64.wrap ((k : Int) + (m : Int)))) = ((k + m : Nat) : Int) from WRP.out]; simp [RowKit.intOf]; omega
    · have hkn2 : k = n := by omega
      subst hkn2
      have hr0 : rest = [] := List.eq_nil_of_length_eq_zero (by rw [RL.out]; omega)
      have H0 := Lib.hid hr0
      clear hr0
      go_wp2
      go_ret
      refine ⟨_, rfl, ?_, fresh_at _ _ _ _, BEL.out⟩
      have hb4 := BLK.out
      rw [H0.out, List.append_nil] at hb4
      refine ⟨length_nodeCells _, _, k, by rw [List.length_replicate]; rfl, by rw [List.length_replicate]; exact Nat.le_refl _, by unfold maxLen; omega, fun _ => ⟨_, _, rfl, (Array.getElem?_eq_some_iff.1 hb4).1, ?_⟩⟩
      intro j u hj
      rw [cell_of_heap hb4]
      simpa using hj
end Go.Proofs.YtggjckalmlploaaGreatDoor
/- The parser: atoms in a row. -/
set_option maxRecDepth 100000
namespace Go.Proofs.YtggjckalmlploaaGreatDoor
open Go.Shelf Go.RowKit Go.Lib Go.Proofs.TreeMath Go.Proofs.LexMath Go.Proofs.FixMath Go.Proofs.ParMath
/-- What holds at each jump back. -/
inductive AJump (C : Cfg) (p : Nat) (dp : Int) (E P : Par) (w0 : World) (R : List (List Nd) × St) : Act → World → Prop
  | mk (w4 : World) (k : Nat) (done : List (List Nd)) (s' : St) (kv tv : Value) (u5 u6 u7 u8 u9 u10 u11 u12 u13 u14 u15 u16 u17 u18 u19 u20 u21 u22 u23 u24 u25 u26 u27 u28 u29 u30 u31 u32 u33 u34 u35 u36 : Value) (w : World) (hrow : LRow w4.heap.size w kv done) (hT : IsTest p w4 tv (either begA)) (hP : PS C p dp s' w) (hw : Bar p w0 w4) (hB : Bar p w4 w) (hR : R = (done ++ (appL C E P k s').1, (appL C E P k s').2)) (hk : s'.rest.length ≤ k) (hd : done.length + s'.rest.length ≤ 701) (hb : sees [either begA] s'.rest = true) (h1 : 1 ≤ done.length) :
    AJump C p dp E P w0 R { tmps := #[.pointer (some ⟨p, 0, none⟩), undef, .slice none 0 0, kv, tv, u5, u6, u7, u8, u9, u10, u11, u12, u13, u14, u15, u16, u17, u18, u19, u20, u21, u22, u23, u24, u25, u26, u27, u28, u29, u30, u31, u32, u33, u34, u35, u36], defers := [] } w
theorem begin_any {p : Nat} {w : World} (hp : p < w.heap.size) {v1 v2 v3 : Value} (h1 : IsTest p w v1 (isKind leafK)) (h2 : IsTest p w v2 (isKey wLp)) (h3 : IsTest p w v3 (isKey wMatch)) :
    Calls Tryz.prog 91 #[.slice (some ⟨w.heap.size, 0, none⟩) 3 3] (w.alloc (.cells #[v1, v2, v3] 73)) fun e w' => ∃ v, e = .returned v ∧ IsTest p w' v (either begA) ∧ Below w.heap.size w w' := by
  refine (either_any p begA w.heap.size 0 3 3 _ (by simp; omega) rfl (by omega) (by simp) (by omega) (fun j hj => ?_)).mono ?_
  · have hl := lit_cells w #[v1, v2, v3] 73
    rcases j with _ | _ | _ | j
    · exact ⟨v1, hl 0 v1 rfl, h1.below (lit_below w _)⟩
    · exact ⟨v2, hl 1 v2 rfl, h2.below (lit_below w _)⟩
    · exact ⟨v3, hl 2 v3 rfl, h3.below (lit_below w _)⟩
    · exact absurd hj (by simp [begA])
  · rintro e w' ⟨v, rfl, h4, h5⟩
    exact ⟨v, rfl, h4, (lit_below w _).trans (h5.mono (by simp))⟩
theorem lists_two {w : World} {u v : Value} {a b : List Nd} (h1 : NodesAt w u a) (h2 : NodesAt w v b) : Lists (w.alloc (.cells #[u, v] 25)) w.heap.size 0 [a, b] := fun i hi => by
  have hl := lit_cells w #[u, v] 25
  rcases i with _ | _ | i
  · exact ⟨u, hl 0 u rfl, h1.below (lit_below w _)⟩
  · exact ⟨v, hl 1 v rfl, h2.below (lit_below w _)⟩
  · exact absurd hi (by simp)
theorem LRow.lists {B : Nat} {w : World} {b n c : Nat} {Ls : List (List Nd)} (h : LRow B w (.slice (some ⟨b, 0, none⟩) n c) Ls) : b < w.heap.size ∧ Lists w b 0 Ls := by
  obtain ⟨vs, h1, h2, _⟩ := h
  have hb := (World.ownsRow.there h1 rfl).2
  obtain ⟨hl, q', c', e, _, _, h4⟩ := SliceAt.of_owns h1
  refine ⟨hb, fun i hi => ⟨vs.getD i default, ?_, h2 i hi⟩⟩
  obtain ⟨b', off, e2, _, hc⟩ := h4 (by omega)
  simp only [Value.slice.injEq] at e
  rw [← e.1] at e2
  simp only [Option.some.injEq, Addr.mk.injEq] at e2
  obtain ⟨rfl, rfl, _⟩ := e2
  exact hc i _ (by rw [List.getD_eq_getElem?_getD, List.getElem?_eq_getElem (by omega)]; rfl)
set_option maxHeartbeats 8000000 in
theorem app_any {C : Cfg} {p : Nat} {dp : Int} {E P : Par} (V : Env C p dp E P) (s : St) (w0 : World) (h : PS C p dp s w0) :
    Calls Tryz.prog 67 #[.pointer (some ⟨p, 0, none⟩)] w0 (NP C p dp (appM C E P s) w0) := by
  have P0 := Lib.hid h
  have HV := Lib.hid V
  have hpl := h.lt
  have hz := appL_sz V.zE V.zP (C := C) 1000 s h.lim.2
  have hl := h.lim.1
  clear h V
  obtain ⟨R, hR⟩ : ∃ R, R = appL C E P 1000 s := ⟨_, rfl⟩
  have hM : appM C E P s = (appN R.1, R.2) := by rw [hR]; rfl
  rw [hM]
  rw [← hR] at hz
  have HZ := Lib.hid hz
  have HR := Lib.hid hR
  clear hM hR hz
  go_enter Tryz.func67, Tryz.ntmps67
  go_wp2_with fail
  refine wp_scope_jumps 0 (AJump C p dp E P w0 R) (fun _ w => left p w) rfl ?_ ?_
  · go_wp2_with fail
    refine (leaf_any p _ P0.out.lt).mono ?_
    rintro e w1 ⟨v1, rfl, hT, hb⟩
    obtain ⟨g1, cap1, rfl⟩ := hT.form
    have T1 := Lib.hid hT
    have P1 := Lib.hid (P0.out.below hb)
    have B1 := Lib.hid (Bar.of_below (p := p) hb)
    clear hT hb
    go_wp2_with fail
    refine (key_any p ⟨#[40]⟩ _ P1.out.lt).mono ?_
    rintro e w2 ⟨v2, rfl, hT, hb⟩
    obtain ⟨g2, cap2, rfl⟩ := hT.form
    have T2 : Hid (IsTest p w2 (.func (.func g2) #[] cap2) (isKey wLp)) := Lib.hid hT
    have T1 := Lib.hid (T1.out.below hb)
    have P2 := Lib.hid (P1.out.below hb)
    have B2 := Lib.hid (B1.out.step hb)
    clear hT hb
    go_wp2_with fail
    refine (key_any p ⟨#[109, 97, 116, 99, 104]⟩ _ P2.out.lt).mono ?_
    rintro e w3 ⟨v3, rfl, hT, hb⟩
    obtain ⟨g3, cap3, rfl⟩ := hT.form
    have T3 : Hid (IsTest p w3 (.func (.func g3) #[] cap3) (isKey wMatch)) := Lib.hid hT
    have T1 := Lib.hid (T1.out.below hb)
    have T2 := Lib.hid (T2.out.below hb)
    have P3 := Lib.hid (P2.out.below hb)
    have B3 := Lib.hid (B2.out.step hb)
    clear hT hb
    go_wp2_with fail
    refine (begin_any P3.out.lt T1.out T2.out T3.out).mono ?_
    rintro e w4 ⟨v4, rfl, hT, hb⟩
    obtain ⟨g4, cap4, rfl⟩ := hT.form
    have T4 := Lib.hid hT
    have P4 := Lib.hid (P3.out.below hb)
    have B4 := Lib.hid (B3.out.step hb)
    clear hT hb T1 T2 T3
    go_wp2_with fail
    go_step3
    have W4 := B4
    have B4 := Lib.hid (Bar.refl p w4)
    have ROW0 : Hid (LRow w4.heap.size w4 (.slice none 0 0) []) := Lib.hid (LRow.nil _ _)
    have hsz1 := atom_sz HV.out.zE HV.out.zP (C := C) s P4.out.lim.2
    have K := atom_any HV.out s w4 P4.out
    have AT : appL C E P 1000 s = (if sees [either begA] (atomM C E P s).2.rest = true then ((atomM C E P s).1 :: (appL C E P (1000 - 1) (atomM C E P s).2).1, (appL C E P (1000 - 1) (atomM C E P s).2).2) else ([(atomM C E P s).1], (atomM C E P s).2)) := by
      rfl
    have hsz2 : (atomM C E P s).2.rest.length ≤ s.rest.length := by omega
    generalize atomM C E P s = X at K AT hsz1 hsz2
    obtain ⟨a, s1⟩ := X
    simp only at K AT hsz1 hsz2
    have K := Lib.hid K
    have AT := Lib.hid AT
    clear hsz1
    go_wp2_with fail
    refine K.out.mono ?_
    rintro e w5 ⟨v5, rfl, hv5, hfr5, hP5, hB5⟩
    obtain ⟨q5, n5, c5, rfl⟩ : ∃ q n c, v5 = .slice q n c := by obtain ⟨_, q, c, e, _⟩ := hv5; exact ⟨q, _, c, e⟩
    have P5 := Lib.hid hP5
    have B5 := Lib.hid (B4.out.trans hB5)
    have V5 := Lib.hid (hv5.below (lit_below w5 (.cells #[.slice q5 n5 c5] 25)))
    have ROW5 := Lib.hid ((ROW0.out.bar (Nat.lt_of_lt_of_le hpl W4.out.size) P4.out.noStr hB5).below (lit_below w5 (.cells #[.slice q5 n5 c5] 25)))
    have OFF := Lib.hid (show ∀ g, (Value.slice none 0 0).ownBlock = some g → Off g (Value.slice q5 n5 c5) from fun g hg => by
      obtain ⟨vs, hh, _⟩ := ROW0.out
      exact fresh_off hfr5 (World.ownsRow.there hh hg).2)
    have FRS := Lib.hid (hfr5.mono B4.out.size)
    clear hv5 hfr5 hP5 hB5
    go_wp2_with ((at_builtin; refine wpList_push rfl _ _ rfl w4.heap.size (.slice none 0 0) [] rfl ?A1 w5.heap.size rfl (.slice q5 n5 c5) a ?A2 ?A3 ?A4 ?A6 (by first | omega | simp) ?A5 ?_; (case A1 => exact ROW5.out); (case A2 => simp); (case A3 => exact V5.out); (case A4 => exact fun _ => OFF.out); (case A6 => exact FRS.out); (case A5 => exact Nat.le_trans B5.out.size (by simp)); intro p6 cap6 w6 hrow6 hbel6; have ROW6 := Lib.hid hrow6; have P6 := Lib.hid ((P5.out.below (lit_below w5 _)).behind (hbel6.mono (Nat.lt_of_lt_of_le hpl W4.out.size))); have B6 := Lib.hid (show Bar p w4 w6 from ⟨hbel6.os.trans B5.out.os, hbel6.tape.trans B5.out.tape, hbel6.output.trans B5.out.output, Nat.le_trans B5.out.size (Nat.le_trans (by simp) hbel6.size), fun k hk hp => (hbel6.block k hk).trans (((lit_below w5 _).block k (Nat.lt_of_lt_of_le hk B5.out.size)).trans (B5.out.block k hk hp))⟩); have T6 := Lib.hid (T4.out.bar B6.out); clear hrow6 hbel6))
    refine (sees1_any P6.out T6.out).mono ?_
    rintro e w7 ⟨rfl, hb⟩
    have P7 := Lib.hid (P6.out.below hb)
    have B7 := Lib.hid (B6.out.step hb)
    have ROW7 := Lib.hid (ROW6.out.below hb)
    clear hb
    cases hv : sees [either begA] s1.rest with
    | true =>
      have hAT := AT.out
      rw [if_pos hv] at hAT
      have RN := Lib.hid (show R = ([a] ++ (appL C E P 999 s1).1, (appL C E P 999 s1).2) from by rw [HR.out, hAT]; rfl)
      have HV7 := Lib.hid hv
      clear hAT hv
      go_wp2_with fail
      go_step3
      exact ⟨rfl, .mk w4 999 _ s1 _ _ _ _ _ _ _ _ _ _ _ _ _ _ _ _ _ _ _ _ _ _ _ _ _ _ _ _ _ _ _ _ _ _ _ ROW7.out T4.out P7.out W4.out B7.out RN.out (by omega) (by simp; omega) HV7.out (by simp)⟩
    | false =>
      have hAT := AT.out
      rw [if_neg (by rw [hv]; simp)] at hAT
      have RN := Lib.hid (show R = ([a], s1) from by rw [HR.out, hAT])
      clear hAT hv
      obtain ⟨b6, u6, rfl, hu6, hn6, hf6⟩ := ROW7.out.get 0 (by simp)
      obtain ⟨q8, n8, c8, rfl⟩ : ∃ q n c, u6 = .slice q n c := by obtain ⟨_, q, c, e, _⟩ := hn6; exact ⟨q, _, c, e⟩
      have A1 := Lib.hid hn6
      have A2 := Lib.hid hf6
      clear hn6 hf6
      go_wp2_with fail
      try simp only [Exit.jump]
      go_ret
      rw [RN.out]
      refine ⟨_, rfl, ?_, A2.out.mono W4.out.size, P7.out, W4.out.trans B7.out⟩
      have h9 := A1.out
      simpa [appN] using h9
  · intro a' w' hJ
    rcases hJ with @⟨w4, k, done, s', kv, tv, u5, u6, u7, u8, u9, u10, u11, u12, u13, u14, u15, u16, u17, u18, u19, u20, u21, u22, u23, u24, u25, u26, u27, u28, u29, u30, u31, u32, u33, u34, u35, u36, _, hrow, hT, hP, hw, hB, hR2, hk, hd, hbg, h1⟩
    obtain ⟨wo, hwo⟩ : ∃ wo : World, wo = w' := ⟨_, rfl⟩
    subst hwo
    obtain ⟨gb, capb, rfl⟩ := hT.form
    obtain ⟨q, c, rfl⟩ := hrow.form
    have ROW0 := Lib.hid hrow
    have T4 := Lib.hid hT
    have P4 := Lib.hid hP
    have W4 := Lib.hid hw
    have B4 := Lib.hid hB
    have HR := Lib.hid hR2
    have HL4 := Lib.hid hP.left
    clear hrow hT hP hw hB hR2
    have hsz1 := atom_sz HV.out.zE HV.out.zP (C := C) s' P4.out.lim.2
    have K := atom_any HV.out s' wo P4.out
    have AT : appL C E P k s' = (if sees [either begA] (atomM C E P s').2.rest = true then ((atomM C E P s').1 :: (appL C E P (k - 1) (atomM C E P s').2).1, (appL C E P (k - 1) (atomM C E P s').2).2) else ([(atomM C E P s').1], (atomM C E P s').2)) := by
      cases k with
      | zero =>
        have : (atomM C E P s').2.rest = [] := List.eq_nil_of_length_eq_zero (by omega)
        rw [this]; rfl
      | succ k => rfl
    have hsz2 : (atomM C E P s').2.rest.length ≤ s'.rest.length := by omega
    have hsz3 := hsz1.2.2.2 hbg
    generalize atomM C E P s' = X at K AT hsz1 hsz2 hsz3
    obtain ⟨a, s1⟩ := X
    simp only at K AT hsz1 hsz2 hsz3
    have K := Lib.hid K
    have AT := Lib.hid AT
    clear hsz1
    go_wp2_with fail
    refine K.out.mono ?_
    rintro e w5 ⟨v5, rfl, hv5, hfr5, hP5, hB5⟩
    obtain ⟨q5, n5, c5, rfl⟩ : ∃ q n c, v5 = .slice q n c := by obtain ⟨_, q, c, e, _⟩ := hv5; exact ⟨q, _, c, e⟩
    have P5 := Lib.hid hP5
    have B5 := Lib.hid (B4.out.trans hB5)
    have V5 := Lib.hid (hv5.below (lit_below w5 (.cells #[.slice q5 n5 c5] 25)))
    have ROW5 := Lib.hid ((ROW0.out.bar (Nat.lt_of_lt_of_le hpl W4.out.size) P4.out.noStr hB5).below (lit_below w5 (.cells #[.slice q5 n5 c5] 25)))
    have OFF := Lib.hid (show ∀ g, (Value.slice q done.length c).ownBlock = some g → Off g (Value.slice q5 n5 c5) from fun g hg => by
      obtain ⟨vs, hh, _⟩ := ROW0.out
      exact fresh_off hfr5 (World.ownsRow.there hh hg).2)
    have FRS := Lib.hid (hfr5.mono B4.out.size)
    clear hv5 hfr5 hP5 hB5
    go_wp2_with ((at_builtin; refine wpList_push rfl _ _ rfl w4.heap.size (.slice q done.length c) done rfl ?B1 w5.heap.size rfl (.slice q5 n5 c5) a ?B2 ?B3 ?B4 ?B6 (by first | omega | simp) ?B5 ?_; (case B1 => exact ROW5.out); (case B2 => simp); (case B3 => exact V5.out); (case B4 => exact fun _ => OFF.out); (case B6 => exact FRS.out); (case B5 => exact Nat.le_trans B5.out.size (by simp)); intro p6 cap6 w6 hrow6 hbel6; have ROW6 := Lib.hid hrow6; have P6 := Lib.hid ((P5.out.below (lit_below w5 _)).behind (hbel6.mono (Nat.lt_of_lt_of_le hpl W4.out.size))); have B6 := Lib.hid (show Bar p w4 w6 from ⟨hbel6.os.trans B5.out.os, hbel6.tape.trans B5.out.tape, hbel6.output.trans B5.out.output, Nat.le_trans B5.out.size (Nat.le_trans (by simp) hbel6.size), fun k hk hp => (hbel6.block k hk).trans (((lit_below w5 _).block k (Nat.lt_of_lt_of_le hk B5.out.size)).trans (B5.out.block k hk hp))⟩); have T6 := Lib.hid (T4.out.bar B6.out); clear hrow6 hbel6))
    refine (sees1_any P6.out T6.out).mono ?_
    rintro e w7 ⟨rfl, hb⟩
    have P7 := Lib.hid (P6.out.below hb)
    have B7 := Lib.hid (B6.out.step hb)
    have ROW7 := Lib.hid (ROW6.out.below hb)
    clear hb
    cases hv : sees [either begA] s1.rest with
    | true =>
      have hAT := AT.out
      rw [if_pos hv] at hAT
      have RN := Lib.hid (show R = ((done ++ [a]) ++ (appL C E P (k - 1) s1).1, (appL C E P (k - 1) s1).2) from by rw [HR.out, hAT]; simp)
      have HV7 := Lib.hid hv
      have hk1 : 1 ≤ k := by obtain ⟨t1, r1, hr1⟩ := head_of hv; rw [hr1] at hsz2; simp at hsz2; omega
      clear hAT hv
      go_wp2_with fail
      go_step3
      exact ⟨rfl, .mk w4 (k - 1) _ s1 _ _ _ _ _ _ _ _ _ _ _ _ _ _ _ _ _ _ _ _ _ _ _ _ _ _ _ _ _ _ _ _ _ _ _ ROW7.out T4.out P7.out W4.out B7.out RN.out (by omega) (by simp; omega) HV7.out (by simp), by show left p w7 < left p wo; rw [P7.out.left, HL4.out]; omega⟩
    | false =>
      have hAT := AT.out
      rw [if_neg (by rw [hv]; simp)] at hAT
      have RN := Lib.hid (show R = (done ++ [a], s1) from by rw [HR.out, hAT])
      clear hAT hv
      have hn2 : ((done.length + 1 : Nat) : Int) ≠ 1 := by omega
      have hz2 : (((done.length + 1 : Nat) : Int) == 1) = false := by rw [beq_eq_false_iff_ne]; exact hn2
      have hz3 : ((done.length : Int) + 1 == 1) = false := by rw [beq_eq_false_iff_ne]; omega
      have hzz := HZ.out
      rw [RN.out] at hzz
      have HZZ := Lib.hid hzz
      have RP := Lib.hid (repeat_any w7.heap.size 0 1 done.length nApp (w7.alloc (.cells #[.int .i64 6, .string ⟨#[]⟩, .int .i64 0, .int .i64 2] 37)) (by simp) (lit_cells w7 #[.int .i64 6, .string ⟨#[]⟩, .int .i64 0, .int .i64 2] 37) h1 (by omega))
      clear hzz
      go_wp2_with fail
      refine RP.out.mono ?_
      rintro e w8 ⟨v8, rfl, hv8, hfr8, hb8⟩
      obtain ⟨q8, n8, c8, rfl⟩ : ∃ q n c, v8 = .slice q n c := by obtain ⟨_, q, c, e, _⟩ := hv8; exact ⟨q, _, c, e⟩
      have hb8' : Below w7.heap.size w7 w8 := (lit_below w7 _).trans (hb8.mono (by simp))
      have V8 := Lib.hid hv8
      have P8 := Lib.hid (P7.out.below hb8')
      have B8 := Lib.hid (B7.out.step hb8')
      have ROW8 := Lib.hid (ROW7.out.below hb8')
      obtain ⟨b6, u6, rfl, _⟩ := ROW7.out.get 0 (by simp)
      have CC := Lib.hid (concat_any b6 0 cap6 (done ++ [a]) w8 ROW8.out.lists.1 (Lib.hid ROW8.out.lists.2) (by have := HZZ.out.1; omega) (by simp; omega))
      clear hv8 hfr8 hb8 hb8'
      rw [List.length_append, List.length_singleton] at CC
      go_wp2_with fail
      refine CC.out.mono ?_
      rintro e w9 ⟨v9, rfl, hv9, hfr9, hb9⟩
      obtain ⟨q9, n9, c9, rfl⟩ : ∃ q n c, v9 = .slice q n c := by obtain ⟨_, q, c, e, _⟩ := hv9; exact ⟨q, _, c, e⟩
      have P9 := Lib.hid (P8.out.below hb9)
      have B9 := Lib.hid (B8.out.step hb9)
      have hl2 := lists_two (V8.out.below hb9) hv9
      have CD := Lib.hid (concat_any w9.heap.size 0 2 [List.replicate done.length nApp, (done ++ [a]).flatten] (w9.alloc (.cells #[.slice q8 n8 c8, .slice q9 n9 c9] 25)) (by simp) (Lib.hid hl2) (by have := HZZ.out.1; simp at this ⊢; omega) (by simp))
      clear hv9 hfr9 hb9 hl2
      go_wp2_with fail
      refine CD.out.mono ?_
      rintro e w10 ⟨v10, rfl, hv10, hfr10, hb10⟩
      have hb10' : Below w9.heap.size w9 w10 := (lit_below w9 _).trans (hb10.mono (by simp))
      have V10 := Lib.hid hv10
      have F10 := Lib.hid (hfr10.mono (show w9.heap.size ≤ _ by simp))
      have P10 := Lib.hid (P9.out.below hb10')
      have B10 := Lib.hid (B9.out.step hb10')
      clear hv10 hfr10 hb10 hb10'
      go_wp2_with fail
      try simp only [Exit.jump]
      go_ret
      rw [RN.out]
      refine ⟨_, rfl, ?_, F10.out.mono (W4.out.trans B9.out).size, P10.out, W4.out.trans B10.out⟩
      have h9 := V10.out
      simpa [appN] using h9
end Go.Proofs.YtggjckalmlploaaGreatDoor
