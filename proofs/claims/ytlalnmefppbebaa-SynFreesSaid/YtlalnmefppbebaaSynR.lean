/- The document's nodes; append of a source that may be nil or empty. -/
import Derived.Test.YtlalnmefppbebaaSynQ5
import Derived.Test.YtlalnmefppbebaaForest
import Derived.Deep.AppendSrc
import Derived.Maps.AppendAt
import Derived.BigRegion
import Derived.Deep.RegionWith
import Derived.Lib.QuietBelow
import Derived.BigQuiet
namespace Go
theorem run_append_any {P : Program} (w : World) (base : Nat) (t ty e : TypeId) (i : TypeInfo) (z : Value) (size bytes : Nat) (ht : P.underlying t = some (.slice e)) (hi : P.info? e = some i) (hz : i.zero = some z)
    (hsize : i.size = size) (hby : i.bytes = bytes) (hzs : z.cells.size = size) (hsz : 0 < size)
    (v : Value) (n : Nat) (xs : List Value) (hown : w.ownsRow base e size v n xs)
    (q : Option Addr) (m c : Nat) (news : List Value) (hl : news.length = m * size) (hq : m ≠ 0 → ∃ ad, q = some ad ∧ ∀ j u, news[j]? = some u → w.cell? (ad.add j) = some u) (h1 : ∀ u ∈ news, u.oneCell' = true)
    (h63 : n + m ≤ maxLen) (hbytes : (n + m) * bytes ≤ 140737488355328) (hbase : base ≤ w.heap.size) :
    ∃ v' w', (Builtin.append_ #[t, t] ty #[v, .slice q m c]).run P w = .ok v' w' ∧ w'.ownsRow base e size v' (n + m) (xs ++ news) ∧ w.grownBy w' v.ownBlock ∧
      (v' = .slice none 0 0 ↔ v = .slice none 0 0 ∧ m = 0) ∧ (v'.ownBlock = v.ownBlock ∨ v'.ownBlock = some w.heap.size) := by
  by_cases h0 : m = 0
  · subst h0
    obtain rfl : news = [] := List.eq_nil_of_length_eq_zero (by rw [hl]; simp)
    cases q with
    | some ad => exact run_append_own_at w base t ty e i z size bytes ht hi hz hsize hby hzs hsz v n xs hown ad 0 c [] hl (by simp) h1 h63 hbytes hbase
    | none =>
      subst hsize
      have hsrc : Src P i.size t (.slice none 0 c) 0 [] w := Src.ofNil w ht c
      rcases hown.2 with ⟨rfl, rfl⟩ | ⟨g, cap, cur, rfl, hbg, hg, hnc, hcm, hcs, htake⟩
      · have hx : xs = [] := List.eq_nil_of_length_eq_zero (by simpa using hown.1)
        subst hx
        refine ⟨.slice none 0 0, w, ?_, World.ownsRow_nil w base e i.size, ⟨rfl, rfl, rfl, Nat.le_refl _, fun _ _ _ => rfl⟩, by simp, Or.inl rfl⟩
        simp [Builtin.append_, run_underlying ht, sizeOf, typeInfo, hi, Builtin.lenOf, Builtin.firstCells]
      · have hr := run_append_room_src (P := P) w t t ty e i ht hi g 0 n cap (.slice none 0 c) 0 [] hsrc (by omega) (by simp) (by simp)
        exact ⟨_, w, hr, by simpa using hown, ⟨rfl, rfl, rfl, Nat.le_refl _, fun _ _ _ => rfl⟩, by simp, Or.inl rfl⟩
  · obtain ⟨ad, rfl, hnews⟩ := hq h0
    exact run_append_own_at w base t ty e i z size bytes ht hi hz hsize hby hzs hsz v n xs hown ad m c news hl hnews h1 h63 hbytes hbase
theorem wpList_append_any {P : Program} (w : World) {ops : Array Oper} {rest : List Oper} {o : Oper} {a : Act} {Q : Exit → Act → World → Prop} (hgd : o.guard = none) (s x : Operand) (t : TypeId)
    (ho : o.op = .call { callee := .builtin .append, args := #[s, x], argTypes := #[t, t] })
    (base : Nat) (e : TypeId) (i : TypeInfo) (z : Value) (size bytes : Nat) (ht : P.underlying t = some (.slice e)) (hi : P.info? e = some i) (hz : i.zero = some z)
    (hsize : i.size = size) (hby : i.bytes = bytes) (hzs : z.cells.size = size) (hsz : 0 < size)
    (v : Value) (n : Nat) (xs : List Value) (hs : a.eval s = v) (hown : w.ownsRow base e size v n xs)
    (q : Option Addr) (m c : Nat) (news : List Value) (hx : a.eval x = .slice q m c) (hl : news.length = m * size) (hq : m ≠ 0 → ∃ ad, q = some ad ∧ ∀ j u, news[j]? = some u → w.cell? (ad.add j) = some u) (h1 : ∀ u ∈ news, u.oneCell' = true)
    (h63 : n + m ≤ maxLen) (hbytes : (n + m) * bytes ≤ 140737488355328) (hbase : base ≤ w.heap.size)
    (h : ∀ p' cap' w', w'.ownsRow base e size (.slice p' (n + m) cap') (n + m) (xs ++ news) → w.grownBy w' v.ownBlock → ((Value.slice p' (n + m) cap').ownBlock = v.ownBlock ∨ (Value.slice p' (n + m) cap').ownBlock = some w.heap.size) → wpList P ops Q rest (a.put o.dst (.slice p' (n + m) cap')) w') : wpList P ops Q (o :: rest) a w := by
  obtain ⟨v', w', hr, h2, h3, h4, h5⟩ := run_append_any (P := P) w base t o.type e i z size bytes ht hi hz hsize hby hzs hsz v n xs hown q m c news hl hq h1 h63 hbytes hbase
  obtain ⟨p', cap', rfl⟩ : ∃ p' cap', v' = .slice p' (n + m) cap' := by
    rcases h2.2 with ⟨rfl, e⟩ | ⟨g, cap, cur, rfl, _⟩
    · exact ⟨none, 0, by rw [e]⟩
    · exact ⟨_, _, rfl⟩
  refine wpList_plain hgd fun K hK => ?_
  unfold Oper.wp execOp
  simp only [ho, resolve, invoke, builtin, Sem.run_bind, Sem.run_pure, Result.andThen_ok, List.map_toArray, List.map_cons, List.map_nil, hs, hx, hr]
  exact hK _ _ (h p' cap' w' h2 h3 h5)
end Go
namespace Go.Proofs.Ytlalnmefppbebaa
open Go.RowKit Go.Proofs.TreeMath Go.Sort
open Go.Proofs.Ytlalnmefppbebaa.Lx (below_drewN)
def chkT (n : Nd) (k : F) (p : Int) : Int := or_ (faultE n (headK k) p) (chkF k (belowP p n.kind) 0)
theorem chkT_place (n : Nd) (k : F) (p p' : Int) (h : p ≠ 0) (h' : p' ≠ 0) : chkT n k p = chkT n k p' := by
  have e : belowP p n.kind = belowP p' n.kind := by funext i; simp [belowP, h, h']
  have e2 : faultE n (headK k) p = faultE n (headK k) p' := by simp [faultE, allowsB, h, h']
  simp [chkT, e, e2]
theorem chkF_cons (n : Nd) (k r : F) (q : Nat → Int) (i : Nat) : chkF (.cons n k r) q i = or_ (chkT n k (q i)) (chkF r q (i + 1)) := by
  simp [chkF, chkT, or_assoc]
theorem chkF_one (n : Nd) (k : F) (p : Int) : chkF (.cons n k .nil) (fun _ => p) 0 = chkT n k p := by
  rw [chkF_cons]
  exact or_zero _
/-- A kid's place. -/
theorem kid_place (n1 : Nd) (k1 : F) (pat : Bool) (kind : Int) (j : Nat) : chkT n1 k1 (belowP (pl pat) kind j) = chkT n1 k1 (pl (pat || (decide (kind = 10) && decide (j % 2 = 1)))) := by
  cases pat with
  | true => exact chkT_place _ _ _ _ (by simp [belowP, pl]) (by simp [pl])
  | false =>
    by_cases h : kind = 10 ∧ j % 2 = 1
    · simp [belowP, pl, h]
    · have e : (decide (kind = 10) && decide (j % 2 = 1)) = false := by
        rw [Bool.and_eq_false_iff]; simp; omega
      simp [belowP, pl, h, e]
theorem rnode_any (b off c : Nat) (ns : List Nd) (i : Nat) (pat : Bool) (w : World) (hnm : ns.length ≤ 1000000) (hb : b < w.heap.size) (hc : CellsIn w b off (nodeCells ns)) (hi : i < ns.length)
    (hx : (ns.getD i default).kids = 2 → i + 1 < ns.length) (hs : (ns.getD i default).text.size ≤ 300) :
    Calls Try.prog 54 #[.slice (some ⟨b, off, none⟩) ns.length c, .int .i64 (i : Int), .bool pat] w (RI (see1 ns i (pl pat)) w) := by
  obtain ⟨c0, c1, c2, c3⟩ := hc.node i hi
  exact rnode_in b off ns.length c i _ _ _ (ns.getD (i + 1) default).kind _ pat w hb hi hnm c0 c1 c2 c3 (fun _ h => ⟨hx h, (hc.node (i + 1) (hx h)).1⟩) hs
def CGood (W : World) (v : Value) (ns : List Nd) (n : Nd) (k : F) : Prop :=
  ∀ (pre post : List Nd) (pat : Bool) (w : World), ns = pre ++ (n :: (k.flat ++ post)) → Below W.heap.size W w → Calls Try.prog 34 #[v, .int .i64 (pre.length : Int), .bool pat] w (RI (chkT n k (pl pat)) w)
def AllC (W : World) (v : Value) (ns : List Nd) : F → Prop
  | .nil => True
  | .cons n k r => CGood W v ns n k ∧ AllC W v ns r
theorem startsF_cons (n : Nd) (k r : F) (p : Nat) : startsF (.cons n k r) p = p :: startsF r (p + 1 + k.sz) := rfl
theorem ofNats_get (xs : List Nat) (i : Nat) : (ofNats xs).getD i 0 = ((xs.getD i 0 : Nat) : Int) := by
  simp only [ofNats, List.getD_eq_getElem?_getD, List.getElem?_map]
  cases xs[i]? <;> rfl
theorem drop_head {xs : List Nat} {i q : Nat} {r : List Nat} (h : xs.drop i = q :: r) : i < xs.length ∧ xs.getD i 0 = q ∧ xs.drop (i + 1) = r := by
  have hi : i < xs.length := by
    rcases Nat.lt_or_ge i xs.length with h' | h'
    · exact h'
    · rw [List.drop_eq_nil_of_le h'] at h; cases h
  rw [List.drop_eq_getElem_cons hi] at h
  injection h with h1 h2
  exact ⟨hi, by rw [List.getD_eq_getElem?_getD, List.getElem?_eq_getElem hi]; exact h1, h2⟩
theorem see_fault (ns pre post : List Nd) (n : Nd) (k : F) (h1 : n.kids = k.cnt) (h : ns = pre ++ (n :: (k.flat ++ post))) (p : Int) : see1 ns pre.length p = faultE n (headK k) p := by
  have g0 : ns.getD pre.length default = n := by rw [h]; simp [List.getD_eq_getElem?_getD]
  unfold see1
  rw [g0]
  cases k with
  | nil => exact fault_next n _ _ _ (by rw [h1]; simp [F.cnt])
  | cons m k' r' =>
    have g1 : ns.getD (pre.length + 1) default = m := by rw [h]; simp [F.flat, List.getD_eq_getElem?_getD]
    rw [g1]
    rfl
set_option maxRecDepth 100000 in
set_option maxHeartbeats 40000000 in
theorem nodes_good (W : World) (ns : List Nd) (bd off cap : Nat) (n : Nd) (k : F) (pat : Bool) (hN : ns.length ≤ 4000) (hat : NodesAt W (.slice (some ⟨bd, off, none⟩) ns.length cap) ns) (hb : bd < W.heap.size) (hc : Hid (CellsIn W bd off (nodeCells ns))) (ht : Hid (∀ x ∈ ns, x.text.size ≤ 300)) (hk : Hid (AllC W (.slice (some ⟨bd, off, none⟩) ns.length cap) ns k))
    (hk1 : Hid (n.kids = k.cnt)) (hk2 : Hid k.ok) (pre post : List Nd) (w : World) (hns : ns = pre ++ (n :: (k.flat ++ post))) (hbel : Below W.heap.size W w) :
    Calls Try.prog 34 #[.slice (some ⟨bd, off, none⟩) ns.length cap, .int .i64 (pre.length : Int), .bool pat] w (RI (chkT n k (pl pat)) w) := by
  have hlen : ns.length = pre.length + (1 + k.sz + post.length) := by rw [hns]; simp [F.flat_length]; omega
  have hi : pre.length < ns.length := by omega
  have hnode : ns.getD pre.length default = n := by rw [hns]; simp [List.getD_eq_getElem?_getD]
  have hcw := hc.out.kept (hbel.block bd hb)
  obtain ⟨c0, c1, c2, c3⟩ := hcw.node pre.length hi
  rw [hnode] at c0 c1 c2 c3
  have hbw : bd < w.heap.size := Nat.lt_of_lt_of_le hb hbel.size
  have hcs := F.cnt_le k
  have NODE := Lib.hid (rnode_any bd off cap ns pre.length pat w (by omega) hbw hcw hi (by rw [hnode, hk1.out]; intro h2; have := F.cnt_le k; omega) (by rw [hnode]; exact ht.out n (by rw [hns]; simp)))
  rw [see_fault ns pre post n k hk1.out hns] at NODE
  have hkids : kidsI (kk ns) pre.length = startsF k (pre.length + 1) := by
    have := kids_flat n k hk1.out hk2.out pre post
    rw [← hns] at this
    exact this
  have KIDS := Lib.hid (fun (W2 : World) (hW : Below w.heap.size w W2) => ref_kids _ ns (pre.length : Int) W2 ((hat.below hbel).below hW) (by omega))
  rw [hkids] at KIDS
  have hszk : k.cnt ≤ 4000 := by omega
  have HNS := Lib.hid hns
  obtain ⟨I, hI⟩ : ∃ I, I = pre.length := ⟨_, rfl⟩
  obtain ⟨M, hM⟩ : ∃ M, M = ns.length := ⟨_, rfl⟩
  rw [← hI, ← hM]
  rw [← hI] at c0 hi KIDS NODE
  rw [← hM] at hi hN KIDS NODE hk
  have HI := Lib.hid hI
  have HM := Lib.hid hM
  have HB := Lib.hid hbel
  obtain ⟨R, hR⟩ : ∃ R, R = chkT n k (pl pat) := ⟨_, rfl⟩
  rw [← hR]
  unfold chkT at hR
  obtain ⟨E, hE⟩ : ∃ E, E = faultE n (headK k) (pl pat) := ⟨_, rfl⟩
  rw [← hE] at hR NODE
  have HR := Lib.hid hR
  clear hI hM hns hlen hnode hkids hat hbel hR hE hcw c1 c2 c3
  obtain ⟨k0, t0, m0, d0⟩ := n
  simp only at c0 hk1 HR
  by_cases hE0 : E = 0
  · subst hE0
    rw [zero_or] at HR
    go_enter Try.func34, Try.ntmps34
    go_wp2_with fail
    refine NODE.out.mono ?_
    rintro e w1 ⟨rfl, b1⟩
    have B1 := Lib.hid b1
    have c0' := (b1.cell (p := ⟨bd, off + I * 4, none⟩) hbw).trans c0
    clear b1 c0
    go_wp2_with fail
    refine (KIDS.out _ B1.out).mono ?_
    rintro e w2 ⟨kv, rfl, hkv, b2⟩
    obtain ⟨hl1, qv, kc, rfl, _, _, hq⟩ := hkv
    rw [show (ofNats (startsF k (I + 1))).length = k.cnt by simp [ofNats, startsF_length]] at hq ⊢
    have B2 := Lib.hid (B1.out.trans (b2.mono B1.out.size))
    have c0 : Hid (w2.cell? ⟨bd, off + I * 4, none⟩ = some (.int .i64 k0)) := Lib.hid ((b2.cell (p := ⟨bd, off + I * 4, none⟩) (by have := B1.out.size; simp; omega)).trans c0')
    have HQ := Lib.hid hq
    clear hq hl1 b2 c0'
    have START : Hid (chkF k (belowP (pl pat) k0) 0 = R) := Lib.hid HR.out.symm
    go_wp2_with fail
    go_loopw [9] (fun s9 wr => ∃ (j Q : Nat) (g : F) (pre' : List Nd), j + g.cnt = k.cnt ∧ s9 = .int .i64 (j : Int) ∧ (startsF k (I + 1)).drop j = startsF g Q ∧ Q = pre'.length ∧ ns = pre' ++ (g.flat ++ post) ∧ chkF g (belowP (pl pat) k0) j = R ∧ AllC W (.slice (some ⟨bd, off, none⟩) M cap) ns g ∧ Below w2.heap.size w2 wr) (fun s9 _ => k.cnt - (intOf s9).toNat)
    case atStart =>
      exact ⟨0, I + 1, k, pre ++ [⟨k0, t0, m0, d0⟩], by omega, rfl, rfl, by rw [List.length_append, ← HI.out]; rfl, by rw [HNS.out]; simp, START.out, hk.out, Below.refl _ _⟩
    case round =>
      obtain ⟨wo, hwo⟩ : ∃ wo : World, wo = wr := ⟨_, rfl⟩
      subst hwo
      obtain ⟨j, Q, g, pre', hj, rfl, hdr, hQ, hns', hres, hgood, hbe⟩ := hrel
      have BE := Lib.hid hbe
      have BW := Lib.hid (B2.out.trans (hbe.mono B2.out.size))
      rcases g with _ | ⟨n1, k1, r1⟩
      · have hj' : j = k.cnt := by simpa [F.cnt] using hj
        subst hj'
        have e : (0 : Int) = R := hres
        subst e
        clear hj hdr hQ hns' hres hgood hbe
        go_wp2
        go_ret
        exact ⟨rfl, BW.out⟩
      · have hlt : j < k.cnt := by simp only [F.cnt] at hj; omega
        rw [startsF_cons] at hdr
        obtain ⟨d1, d2, d3⟩ := drop_head hdr
        obtain ⟨b2, o2, rfl, hb2, hc2⟩ := HQ.out (by omega)
        have cj := hc2.int j (by simpa [ofNats] using d1)
        rw [ofNats_get, d2] at cj
        have cj2 := (BE.out.cell (p := ⟨b2, o2 + j, none⟩) hb2).trans cj
        have ck := (BE.out.cell (p := ⟨bd, off + I * 4, none⟩) (by have := B2.out.size; simp; omega)).trans c0.out
        rw [chkF_cons, kid_place] at hres
        have HC := Lib.hid (fun (p2 : Bool) (W2 : World) (h2 : Below wo.heap.size wo W2) => hgood.1 pre' (r1.flat ++ post) p2 W2 (by rw [hns']; simp [F.flat]) (HB.out.trans ((BW.out.trans (h2.mono BW.out.size)).mono HB.out.size)))
        rw [← hQ] at HC
        have hltz : ((j : Int) < (k.cnt : Int)) := by omega
        have REST := Lib.hid (And.intro hj (And.intro hQ (And.intro hns' (And.intro hgood.2 d3))))
        have HRES := Lib.hid hres
        clear hj hQ hns' hgood hdr d1 d2 d3 hres hbe cj
        cases pat with
        | true =>
          obtain ⟨X, hX⟩ : ∃ X, X = chkT n1 k1 (pl true) := ⟨_, rfl⟩
          have HCB := Lib.hid (fun W2 h2 => HC.out true W2 h2)
          rw [← hX] at HCB
          have HR2 := HRES.out
          rw [Bool.true_or, ← hX] at HR2
          have HR3 := Lib.hid HR2
          clear hX HC HRES HR2
          go_wp2_with fail
          have e1 := cell_regrown cj2
          have e2 := cell_regrown ck
          clear cj2 ck
          refine wp_region_quiet_below (by kernel_rfl) (by kernel_rfl) ?_
          repeat (go_big_quiet_step ((go_at_call 34; exact Calls.regrown_of (HCB.out _ (below_regrown wo _ _)))))
          refine wpQuiet_nil ?_
          intro _ hw'
          obtain ⟨⟨dq, osq⟩, hw''⟩ := hw'
          subst hw''
          clear e1 e2
          have B4 := Lib.hid (below_regrown wo dq osq)
          have HR2 := HR3.out
          clear HR3
          by_cases hX0 : X = 0
          · subst hX0
            rw [zero_or] at HR2
            have HR3 := Lib.hid HR2
            clear HR2
            go_wp2_with fail
            go_roundw
            case rel =>
              obtain ⟨hj, hQ, hns', hg2, d3⟩ := REST.out
              exact ⟨j + 1, Q + 1 + k1.sz, r1, pre' ++ (n1 :: k1.flat), by simp only [F.cnt] at hj; omega, by go_num, d3, by rw [List.length_append, ← hQ]; simp [F.flat_length]; omega, by rw [hns']; simp [F.flat], HR3.out, hg2, BE.out.trans (B4.out.mono BE.out.size)⟩
            case measure => simp [intOf]; omega
          · unfold or_ at HR2
            rw [if_neg hX0] at HR2
            subst HR2
            have g9 : (X != 0) = true := by simpa using hX0
            clear hX0
            go_wp2_with fail
            go_ret
            exact ⟨rfl, BW.out.trans (B4.out.mono BW.out.size)⟩
        | false =>
          by_cases hk10 : k0 = 10
          · by_cases hjo : j % 2 = 1
            · have gj : (((j : Int) % 2) == 1) = true := by simp; omega
              have gj2 : decide (((j : Int) % 2) = 1) = true := by simp; omega
              obtain ⟨X, hX⟩ : ∃ X, X = chkT n1 k1 (pl true) := ⟨_, rfl⟩
              have HCB := Lib.hid (fun W2 h2 => HC.out true W2 h2)
              rw [← hX] at HCB
              have HR2 := HRES.out
              rw [show (false || (decide (k0 = 10) && decide (j % 2 = 1))) = true by simp [hk10, hjo], ← hX] at HR2
              have HR3 := Lib.hid HR2
              clear hX HC HRES HR2
              go_wp2_with fail
              have e1 := cell_regrown cj2
              have e2 := cell_regrown ck
              clear cj2 ck
              refine wp_region_quiet_below (by kernel_rfl) (by kernel_rfl) ?_
              repeat (go_big_quiet_step ((go_at_call 34; exact Calls.regrown_of (HCB.out _ (below_regrown wo _ _)))))
              refine wpQuiet_nil ?_
              intro _ hw'
              obtain ⟨⟨dq, osq⟩, hw''⟩ := hw'
              subst hw''
              clear e1 e2
              have B4 := Lib.hid (below_regrown wo dq osq)
              have HR2 := HR3.out
              clear HR3
              by_cases hX0 : X = 0
              · subst hX0
                rw [zero_or] at HR2
                have HR3 := Lib.hid HR2
                clear HR2
                go_wp2_with fail
                go_roundw
                case rel =>
                  obtain ⟨hj, hQ, hns', hg2, d3⟩ := REST.out
                  exact ⟨j + 1, Q + 1 + k1.sz, r1, pre' ++ (n1 :: k1.flat), by simp only [F.cnt] at hj; omega, by go_num, d3, by rw [List.length_append, ← hQ]; simp [F.flat_length]; omega, by rw [hns']; simp [F.flat], HR3.out, hg2, BE.out.trans (B4.out.mono BE.out.size)⟩
                case measure => simp [intOf]; omega
              · unfold or_ at HR2
                rw [if_neg hX0] at HR2
                subst HR2
                have g9 : (X != 0) = true := by simpa using hX0
                clear hX0
                go_wp2_with fail
                go_ret
                exact ⟨rfl, BW.out.trans (B4.out.mono BW.out.size)⟩
            · have gj : (((j : Int) % 2) == 1) = false := by simp; omega
              have gj2 : decide (((j : Int) % 2) = 1) = false := by simp; omega
              obtain ⟨X, hX⟩ : ∃ X, X = chkT n1 k1 (pl false) := ⟨_, rfl⟩
              have HCB := Lib.hid (fun W2 h2 => HC.out false W2 h2)
              rw [← hX] at HCB
              have HR2 := HRES.out
              rw [show (false || (decide (k0 = 10) && decide (j % 2 = 1))) = false by simp [hjo], ← hX] at HR2
              have HR3 := Lib.hid HR2
              clear hX HC HRES HR2
              go_wp2_with fail
              have e1 := cell_regrown cj2
              have e2 := cell_regrown ck
              clear cj2 ck
              refine wp_region_quiet_below (by kernel_rfl) (by kernel_rfl) ?_
              repeat (go_big_quiet_step ((go_at_call 34; exact Calls.regrown_of (HCB.out _ (below_regrown wo _ _)))))
              refine wpQuiet_nil ?_
              intro _ hw'
              obtain ⟨⟨dq, osq⟩, hw''⟩ := hw'
              subst hw''
              clear e1 e2
              have B4 := Lib.hid (below_regrown wo dq osq)
              have HR2 := HR3.out
              clear HR3
              by_cases hX0 : X = 0
              · subst hX0
                rw [zero_or] at HR2
                have HR3 := Lib.hid HR2
                clear HR2
                go_wp2_with fail
                go_roundw
                case rel =>
                  obtain ⟨hj, hQ, hns', hg2, d3⟩ := REST.out
                  exact ⟨j + 1, Q + 1 + k1.sz, r1, pre' ++ (n1 :: k1.flat), by simp only [F.cnt] at hj; omega, by go_num, d3, by rw [List.length_append, ← hQ]; simp [F.flat_length]; omega, by rw [hns']; simp [F.flat], HR3.out, hg2, BE.out.trans (B4.out.mono BE.out.size)⟩
                case measure => simp [intOf]; omega
              · unfold or_ at HR2
                rw [if_neg hX0] at HR2
                subst HR2
                have g9 : (X != 0) = true := by simpa using hX0
                clear hX0
                go_wp2_with fail
                go_ret
                exact ⟨rfl, BW.out.trans (B4.out.mono BW.out.size)⟩
          · have g10 : (k0 == 10) = false := by simpa using hk10
            obtain ⟨X, hX⟩ : ∃ X, X = chkT n1 k1 (pl false) := ⟨_, rfl⟩
            have HCB := Lib.hid (fun W2 h2 => HC.out false W2 h2)
            rw [← hX] at HCB
            have HR2 := HRES.out
            rw [show (false || (decide (k0 = 10) && decide (j % 2 = 1))) = false by simp [hk10], ← hX] at HR2
            have HR3 := Lib.hid HR2
            clear hX HC HRES HR2
            go_wp2_with fail
            have e1 := cell_regrown cj2
            have e2 := cell_regrown ck
            clear cj2 ck
            refine wp_region_quiet_below (by kernel_rfl) (by kernel_rfl) ?_
            repeat (go_big_quiet_step ((go_at_call 34; exact Calls.regrown_of (HCB.out _ (below_regrown wo _ _)))))
            refine wpQuiet_nil ?_
            intro _ hw'
            obtain ⟨⟨dq, osq⟩, hw''⟩ := hw'
            subst hw''
            clear e1 e2
            have B4 := Lib.hid (below_regrown wo dq osq)
            have HR2 := HR3.out
            clear HR3
            by_cases hX0 : X = 0
            · subst hX0
              rw [zero_or] at HR2
              have HR3 := Lib.hid HR2
              clear HR2
              go_wp2_with fail
              go_roundw
              case rel =>
                obtain ⟨hj, hQ, hns', hg2, d3⟩ := REST.out
                exact ⟨j + 1, Q + 1 + k1.sz, r1, pre' ++ (n1 :: k1.flat), by simp only [F.cnt] at hj; omega, by go_num, d3, by rw [List.length_append, ← hQ]; simp [F.flat_length]; omega, by rw [hns']; simp [F.flat], HR3.out, hg2, BE.out.trans (B4.out.mono BE.out.size)⟩
              case measure => simp [intOf]; omega
            · unfold or_ at HR2
              rw [if_neg hX0] at HR2
              subst HR2
              have g9 : (X != 0) = true := by simpa using hX0
              clear hX0
              go_wp2_with fail
              go_ret
              exact ⟨rfl, BW.out.trans (B4.out.mono BW.out.size)⟩
  · have e : or_ E (chkF k (belowP (pl pat) k0) 0) = E := by simp [or_, hE0]
    have g1 : (E != 0) = true := by simpa using hE0
    have HE := Lib.hid e
    clear hE0 e
    go_enter Try.func34, Try.ntmps34
    go_wp2_with fail
    refine NODE.out.mono ?_
    rintro e w1 ⟨rfl, b1⟩
    have B1 := Lib.hid b1
    clear b1
    go_wp2_with fail
    go_ret
    exact ⟨ret_i (by rw [HR.out, HE.out]), B1.out⟩
end Go.Proofs.Ytlalnmefppbebaa
