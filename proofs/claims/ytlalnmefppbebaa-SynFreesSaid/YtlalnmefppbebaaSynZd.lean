/- The document's free: functions, lets, recs. -/
import Derived.Test.YtlalnmefppbebaaSynT
import Derived.Deep.RegionHeld3
import Derived.BigQuiet
import Derived.Test.YtlalnmefppbebaaSynZc
namespace Go.Proofs.Ytlalnmefppbebaa
open Go.RowKit Go.Proofs.TreeMath
theorem step_append_any {P : Program} {ops : Array Oper} {o : Oper} {a : Act} {w : World} {K : Act → World → Prop} {Q : Exit → Act → World → Prop} {E : Prop} (hgd : o.guard = none) (s x : Operand) (t : TypeId)
    (ho : o.op = .call { callee := .builtin .append, args := #[s, x], argTypes := #[t, t] })
    (base : Nat) (e : TypeId) (i : TypeInfo) (z : Value) (size bytes : Nat) (ht : P.underlying t = some (.slice e)) (hi : P.info? e = some i) (hz : i.zero = some z)
    (hsize : i.size = size) (hby : i.bytes = bytes) (hzs : z.cells.size = size) (hsz : 0 < size)
    (v : Value) (n : Nat) (xs : List Value) (hs : a.eval s = v) (hown : w.ownsRow base e size v n xs)
    (q : Option Addr) (m c : Nat) (news : List Value) (hx : a.eval x = .slice q m c) (hl : news.length = m * size) (hq : m ≠ 0 → ∃ ad, q = some ad ∧ ∀ j u, news[j]? = some u → w.cell? (ad.add j) = some u) (h1 : ∀ u ∈ news, u.oneCell' = true)
    (h63 : n + m ≤ maxLen) (hbytes : (n + m) * bytes ≤ 140737488355328) (hbase : base ≤ w.heap.size)
    (h : ∀ p' cap' w', w'.ownsRow base e size (.slice p' (n + m) cap') (n + m) (xs ++ news) → w.grownBy w' v.ownBlock → ((Value.slice p' (n + m) cap').ownBlock = v.ownBlock ∨ (Value.slice p' (n + m) cap').ownBlock = some w.heap.size) → K (a.put o.dst (.slice p' (n + m) cap')) w') :
    if Region.wanted o (yielded ops a.tmps) = true then Oper.wp P o a w K Q else E := by
  have hw : Region.wanted o (yielded ops a.tmps) = true := by simp [Region.wanted, hgd]
  rw [if_pos hw]
  obtain ⟨v', w', hr, h2, h3, h4, h5⟩ := run_append_any (P := P) w base t o.type e i z size bytes ht hi hz hsize hby hzs hsz v n xs hown q m c news hl hq h1 h63 hbytes hbase
  obtain ⟨p', cap', rfl⟩ : ∃ p' cap', v' = .slice p' (n + m) cap' := by
    rcases h2.2 with ⟨rfl, e⟩ | ⟨g, cap, cur, rfl, _⟩
    · exact ⟨none, 0, by rw [e]⟩
    · exact ⟨_, _, rfl⟩
  unfold Oper.wp execOp
  simp only [ho, resolve, invoke, builtin, Sem.run_bind, Sem.run_pure, Result.andThen_ok, List.map_toArray, List.map_cons, List.map_nil, hs, hx, hr]
  exact h p' cap' w' h2 h3 h5
theorem below_next {W w1 w2 : World} (h : Below W.heap.size W w1) (b : Below w1.heap.size w1 w2) : Below W.heap.size W w2 := h.trans (b.mono h.size)
theorem text_row (w : World) (t : ByteArray) : SRow w.heap.size (w.alloc (.cells #[.string t] 9)) (.slice (some ⟨w.heap.size, 0, none⟩) 1 1) [t] :=
  ⟨by simp [strCells], .inr ⟨w.heap.size, 1, #[.string t], rfl, Nat.le_refl _, by show (w.heap.push _)[w.heap.size]? = _; simp, Nat.le_refl _, by simp [maxLen], rfl, by simp [strCells]⟩⟩
theorem lit_k {Y wz : World} {t : ByteArray} (b : Below (Y.alloc (.cells #[.string t] 9)).heap.size (Y.alloc (.cells #[.string t] 9)) wz) : StrsAt wz (.slice (some ⟨Y.heap.size, 0, none⟩) 1 1) [t] := (text_row Y t).at.below b
theorem ints_cells {w : World} {v : Value} {xs : List Int} (h : IntsAt w v xs) : ∃ p c, v = .slice p xs.length c ∧ (xs.length ≠ 0 → ∃ b o, p = some ⟨b, o, none⟩ ∧ b < w.heap.size ∧ CellsIn w b o (intCells xs)) := by
  obtain ⟨_, p, c, rfl, _, _, hs⟩ := h
  exact ⟨p, c, rfl, hs⟩
theorem strs_form' {w : World} {v : Value} {ns : List ByteArray} (h : StrsAt w v ns) : ∃ p c, v = .slice p ns.length c := by
  obtain ⟨_, p, cap, h1, _⟩ := h
  exact ⟨p, cap, h1⟩
def Less : Prop := ∀ va vb xs bs W, StrsAt W va xs → StrsAt W vb bs → xs.length ≤ 100000 → Calls Try.prog 70 #[va, vb] W (SOwn (lessL xs bs) W)
def FreeAt (b off n c : Nat) (q : Nat) (s : List ByteArray) (w : World) : Prop := ∀ W, Below w.heap.size w W → Calls Try.prog 41 #[.slice (some ⟨b, off, none⟩) n c, .int .i64 (q : Int)] W (SOwn s W)
set_option maxRecDepth 100000 in
set_option maxHeartbeats 8000000 in
theorem rfree_fun (b off n c I q0 : Nat) (t0 : ByteArray) (m0 d0 : Int) (s0 : List ByteArray) (w : World) (hI : I < n)
    (c0 : w.cell? ⟨b, off + I * 4, none⟩ = some (.int .i64 5)) (c1 : w.cell? ⟨b, off + I * 4 + 1, none⟩ = some (.string t0)) (c2 : w.cell? ⟨b, off + I * 4 + 2, none⟩ = some (.int .i64 m0)) (c3 : w.cell? ⟨b, off + I * 4 + 3, none⟩ = some (.int .i64 d0))
    (KIDS : Hid (∀ W, Below w.heap.size w W → Calls Try.prog 42 #[.slice (some ⟨b, off, none⟩) n c, .int .i64 (I : Int)] W (KRet W [(q0 : Int)])))
    (F0 : Hid (FreeAt b off n c q0 s0 w)) (LS : Hid Less) (h0 : Hid (s0.length ≤ 40000)) :
    Calls Try.prog 41 #[.slice (some ⟨b, off, none⟩) n c, .int .i64 (I : Int)] w (SOwn (lessL s0 [t0]) w) := by
  have hin : ((I : Int) < (n : Int)) := by omega
  have LSS : Hid (∀ va vb xs bs W, StrsAt W va xs → StrsAt W vb bs → xs.length ≤ 100000 → Calls Try.prog 70 #[va, vb] W (SOwn (lessL xs bs) W)) := LS
  have BA := Lib.hid (show Below w.heap.size w (w.alloc (.cells #[.int .i64 5, .string t0, .int .i64 m0, .int .i64 d0] 42)) from (Below.refl _ _).alloc (Nat.le_refl _) _)
  have KK := Lib.hid (KIDS.out _ BA.out)
  have X1 : Hid ((w.alloc (.cells #[.int .i64 5, .string t0, .int .i64 m0, .int .i64 d0] 42)).cell? ⟨w.heap.size, 0, none⟩ = some (.int .i64 5) ∧ (w.alloc (.cells #[.int .i64 5, .string t0, .int .i64 m0, .int .i64 d0] 42)).cell? ⟨w.heap.size, 1, none⟩ = some (.string t0)) := Lib.hid ⟨by simp, by simp⟩
  have hsz : w.heap.size < (w.alloc (.cells #[.int .i64 5, .string t0, .int .i64 m0, .int .i64 d0] 42)).heap.size := by simp
  obtain ⟨i0, hi0, hz0, hz1, hz2⟩ := infoStr
  have HIN := Lib.hid (And.intro hi0 (And.intro hz0 (And.intro hz1 hz2)))
  clear hi0 hz0 hz1 hz2
  go_enter Try.func41, Try.ntmps41
  go_wp2_with fail
  refine KK.out.mono ?_
  rintro e w2 ⟨kv, rfl, hkv, b2⟩
  obtain ⟨kp, kc, rfl, hs⟩ := ints_cells hkv
  obtain ⟨kb, ko, rfl, hkb, hkc⟩ := hs (by simp)
  have k0 := hkc.int 0 (by simp)
  simp only [Nat.add_zero, List.getD_cons_zero] at k0
  have x0 := (b2.cell (p := ⟨w.heap.size, 0, none⟩) hsz).trans X1.out.1
  have x1 := (b2.cell (p := ⟨w.heap.size, 1, none⟩) hsz).trans X1.out.2
  have B2 := Lib.hid (BA.out.trans (b2.mono BA.out.size))
  have SS : Hid (∀ W, Below w2.heap.size w2 W → W.cell? ⟨kb, ko, none⟩ = some (.int .i64 (q0 : Int)) ∧ W.cell? ⟨w.heap.size, 1, none⟩ = some (.string t0)) := Lib.hid fun W hW => ⟨(hW.cell (p := ⟨kb, ko, none⟩) hkb).trans k0, (hW.cell (p := ⟨w.heap.size, 1, none⟩) (Nat.lt_of_lt_of_le hsz b2.size)).trans x1⟩
  have FF0 := Lib.hid (fun W (hW : Below w2.heap.size w2 W) => F0.out W (below_next B2.out hW))
  clear hkv hkb hkc hs b2 hsz
  go_wp2_with fail
  go_region_held3 (fun W => W.cell? ⟨kb, ko, none⟩ = some (.int .i64 (q0 : Int)) ∧ W.cell? ⟨w.heap.size, 1, none⟩ = some (.string t0)) (exact SS.out _ (by repeat' (first | assumption | exact Below.refl _ _ | apply Below.drew | (refine Below.alloc ?_ ?_ _) | exact Nat.le_refl _ | (exact Below.size (by assumption)) | (simp; done)))) ((first
    | (go_at_call 41; (with_reducible refine Calls.mono (FF0.out _ ?_) ?_); (exact (by repeat' (first | assumption | exact Below.refl _ _ | apply Below.drew | (refine Below.alloc ?_ ?_ _) | exact Nat.le_refl _ | (exact Below.size (by assumption)) | (simp; done)))); rintro e wA ⟨v0, rfl, r3, b3⟩; (try (have T0 := Lib.hid (lit_k (Y := w2) b3))); (try (have T0 := Lib.hid (lit_k (Y := w2.drew) b3))); have bwA' : Below w2.heap.size w2 wA := below_next (by repeat' (first | assumption | exact Below.refl _ _ | apply Below.drew | (refine Below.alloc ?_ ?_ _) | exact Nat.le_refl _ | (exact Below.size (by assumption)) | (simp; done))) b3; obtain ⟨p0, c0', rfl⟩ := strs_form' r3.at; have R0 := Lib.hid r3; clear r3 b3)
    | (go_at_call 70; (with_reducible refine Calls.mono (LSS.out _ _ s0 [t0] _ ?_ ?_ ?_) ?_); (first | exact R0.out.at | exact SRow.at (SRow.after R0.out (by repeat' (first | exact Below.refl _ _ | apply Below.drew | (refine Below.alloc ?_ ?_ _) | exact Nat.le_refl _ | (simp; done))))); (first | exact T0.out | exact StrsAt.below T0.out (by repeat' (first | exact Below.refl _ _ | apply Below.drew | (refine Below.alloc ?_ ?_ _) | exact Nat.le_refl _ | (simp; done))) | exact (text_row _ t0).at); (first | exact Nat.le_trans h0.out (by decide)); rintro e wL ⟨v9, rfl, r3, b3⟩; (try (have T0 := Lib.hid (lit_k (Y := w2) b3))); (try (have T0 := Lib.hid (lit_k (Y := wA) b3))); have bwL' : Below w2.heap.size w2 wL := below_next (by repeat' (first | assumption | exact Below.refl _ _ | apply Below.drew | (refine Below.alloc ?_ ?_ _) | exact Nat.le_refl _ | (exact Below.size (by assumption)) | (simp; done))) b3; obtain ⟨p9, c9, rfl⟩ := strs_form' r3.at; have R9 := Lib.hid (World.ownsRow.base r3 (Nat.le_trans B2.out.size (Below.size (show Below w2.heap.size w2 _ from (by repeat' (first | assumption | exact Below.refl _ _ | apply Below.drew | (refine Below.alloc ?_ ?_ _) | exact Nat.le_refl _ | (exact Below.size (by assumption)) | (simp; done))))))); clear r3 b3)))
  all_goals
    have BF := Lib.hid (below_next B2.out bwL')
    go_wp2_with fail
    go_ret
    exact ⟨_, rfl, R9.out, BF.out⟩
end Go.Proofs.Ytlalnmefppbebaa

/- The document's free: matches. -/
namespace Go.Proofs.Ytlalnmefppbebaa
open Go.RowKit Go.Proofs.TreeMath
set_option maxRecDepth 100000 in
set_option maxHeartbeats 16000000 in
theorem rfree_match (W : World) (ns : List Nd) (bd off cap : Nat) (n : Nd) (k : F) (hN : ns.length ≤ 4000) (hat : NodesAt W (.slice (some ⟨bd, off, none⟩) ns.length cap) ns) (hb : bd < W.heap.size) (hc : Hid (CellsIn W bd off (nodeCells ns))) (hk : Hid (AllE W (.slice (some ⟨bd, off, none⟩) ns.length cap) ns k)) (hv : Hid (AllV W (.slice (some ⟨bd, off, none⟩) ns.length cap) ns k))
    (hk1 : Hid (n.kids = k.cnt)) (hk2 : Hid k.ok) (g10 : n.kind = 10) (hodd : k.cnt % 2 = 1) (hchk : Hid (chkF k (belowP 0 10) 0 = 0)) (LS : Hid Less) (pre post : List Nd) (w : World) (hns : ns = pre ++ (n :: (k.flat ++ post))) (hbel : Below W.heap.size W w) :
    Calls Try.prog 41 #[.slice (some ⟨bd, off, none⟩) ns.length cap, .int .i64 (pre.length : Int)] w (SOwn (freeT n k) w) := by
  have hlen : ns.length = pre.length + (1 + k.sz + post.length) := by rw [hns]; simp [F.flat_length]; omega
  have hi : pre.length < ns.length := by omega
  have hnode : ns.getD pre.length default = n := by rw [hns]; simp [List.getD_eq_getElem?_getD]
  have hcw := hc.out.kept (hbel.block bd hb)
  obtain ⟨c0, c1, c2, c3⟩ := hcw.node pre.length hi
  rw [hnode] at c0 c1 c2 c3
  have hbw : bd < w.heap.size := Nat.lt_of_lt_of_le hb hbel.size
  have hcs := F.cnt_le k
  have hkids : kidsI (kk ns) pre.length = startsF k (pre.length + 1) := by
    have := kids_flat n k hk1.out hk2.out pre post
    rw [← hns] at this
    exact this
  have KIDS := Lib.hid (fun (W2 : World) (hW : Below w.heap.size w W2) => ref_kids _ ns (pre.length : Int) W2 ((hat.below hbel).below hW) (by omega))
  rw [hkids] at KIDS
  have hszk : k.cnt ≤ 4000 := by omega
  have hks : k.sz ≤ 4000 := by omega
  have HNS := Lib.hid hns
  obtain ⟨I, hI⟩ : ∃ I, I = pre.length := ⟨_, rfl⟩
  obtain ⟨M, hM⟩ : ∃ M, M = ns.length := ⟨_, rfl⟩
  rw [← hI, ← hM]
  rw [← hI] at c0 c1 c2 c3 hi KIDS
  rw [← hM] at hi hN KIDS hk hv
  have HM := Lib.hid hM
  have HI := Lib.hid hI
  have HB := Lib.hid hbel
  clear hI hM hns hlen hnode hkids hat hbel hcw
  obtain ⟨k0, t0, m0, d0⟩ := n
  simp only at c0 c1 c2 c3 hk1
  subst g10
  have LSS : Hid (∀ va vb xs bs W, StrsAt W va xs → StrsAt W vb bs → xs.length ≤ 100000 → Calls Try.prog 70 #[va, vb] W (SOwn (lessL xs bs) W)) := LS
  obtain ⟨n1, k1, r, rfl⟩ : ∃ n1 k1 r, k = .cons n1 k1 r := by
    cases k with
    | nil => simp [F.cnt] at hodd
    | cons n1 k1 r => exact ⟨n1, k1, r, rfl⟩
  have hre : r.cnt % 2 = 0 := by simp only [F.cnt] at hodd; omega
  have hR := free_match (n := ⟨10, t0, m0, d0⟩) rfl n1 k1 r hre
  have hRl := freeT_len ⟨10, t0, m0, d0⟩ (.cons n1 k1 r)
  obtain ⟨R, hRR⟩ : ∃ R, R = freeT ⟨10, t0, m0, d0⟩ (.cons n1 k1 r) := ⟨_, rfl⟩
  rw [← hRR] at hR hRl ⊢
  have HR := Lib.hid hR
  have HRL : Hid (R.length ≤ 40000) := Lib.hid (by omega)
  have HRE := Lib.hid hre
  obtain ⟨KC, hKC⟩ : ∃ KC, KC = (F.cons n1 k1 r).cnt := ⟨_, rfl⟩
  obtain ⟨ST, hST⟩ : ∃ ST, ST = startsF (.cons n1 k1 r) (I + 1) := ⟨_, rfl⟩
  have hSL : (ofNats ST).length = KC := by rw [hST, hKC]; simp [ofNats, startsF_length]
  have hS0 : ST.getD 0 0 = I + 1 ∧ ST.drop 1 = startsF r (I + 1 + 1 + k1.sz) := by rw [hST]; exact ⟨rfl, rfl⟩
  rw [← hST] at KIDS
  have HKC := Lib.hid (show KC = r.cnt + 1 by rw [hKC]; rfl)
  have hKCp : 0 < KC := by rw [hKC]; simp [F.cnt]
  have hKCl : KC ≤ 4000 := by rw [hKC]; exact hszk
  have hch := hchk.out
  rw [chkF_cons, or_eq_zero] at hch
  have HC1 := Lib.hid (hk.out.1 hch.1)
  have HCR := Lib.hid hch.2
  have HKR := Lib.hid (And.intro hk.out.2 (And.intro hv.out.2 hk2.out.2.2))
  have HSL := Lib.hid hSL
  have HS0 := Lib.hid hS0
  clear hR hRl hks hRR hre hodd hST hKC hch hSL hS0 hszk hcs hk hv hk2 hchk
  obtain ⟨i0, hi0, hz0, hz1, hz2⟩ := infoStr
  have HIN := Lib.hid (And.intro hi0 (And.intro hz0 (And.intro hz1 hz2)))
  clear hi0 hz0 hz1 hz2
  have BA := Lib.hid (show Below w.heap.size w (w.alloc (.cells #[.int .i64 10, .string t0, .int .i64 m0, .int .i64 d0] 42)) from (Below.refl _ _).alloc (Nat.le_refl _) _)
  have KK := Lib.hid (KIDS.out _ BA.out)
  have X1 : Hid ((w.alloc (.cells #[.int .i64 10, .string t0, .int .i64 m0, .int .i64 d0] 42)).cell? ⟨w.heap.size, 0, none⟩ = some (.int .i64 10)) := Lib.hid (by simp)
  have hsz : w.heap.size < (w.alloc (.cells #[.int .i64 10, .string t0, .int .i64 m0, .int .i64 d0] 42)).heap.size := by simp
  have hin : ((I : Int) < (M : Int)) := by omega
  go_enter Try.func41, Try.ntmps41
  go_wp2_with fail
  refine KK.out.mono ?_
  rintro e w2 ⟨kv, rfl, hkv, b2⟩
  obtain ⟨hl1, kp, kc, rfl, _, _, hq⟩ := hkv
  rw [HSL.out] at hq ⊢
  obtain ⟨kb, ko, rfl, hkb, hkc⟩ := hq (by omega)
  have k0' := hkc.int 0 (by rw [HSL.out]; exact hKCp)
  rw [ofNats_get, HS0.out.1] at k0'
  simp only [Nat.add_zero] at k0'
  have x0 := (b2.cell (p := ⟨w.heap.size, 0, none⟩) hsz).trans X1.out
  have B2 := Lib.hid (BA.out.trans (b2.mono BA.out.size))
  have HKB := Lib.hid (And.intro hkb hkc)
  have HC0 := HC1.out (pre ++ [⟨10, t0, m0, d0⟩]) (r.flat ++ post) w2 (by rw [HNS.out]; simp [F.flat]) (HB.out.trans (B2.out.mono HB.out.size))
  rw [show (pre ++ [(⟨10, t0, m0, d0⟩ : Nd)]).length = I + 1 by rw [List.length_append, ← HI.out]; rfl] at HC0
  have HC0 := Lib.hid HC0
  have hkpz : (0 : Int) < (KC : Int) := by omega
  clear hl1 hq b2 c0 c1 c2 c3 hsz hkc
  go_wp2_with fail
  refine HC0.out.mono ?_
  rintro e w3 ⟨v3, rfl, r3, b3⟩
  have B3 := Lib.hid (B2.out.trans (b3.mono B2.out.size))
  have R3 := Lib.hid (World.ownsRow.base r3 B2.out.size)
  have HKB3 := Lib.hid (show kb < w3.heap.size ∧ CellsIn w3 kb ko (intCells (ofNats ST)) ∧ v3.ownBlock ≠ some kb from ⟨Nat.lt_of_lt_of_le hkb b3.size, HKB.out.2.kept (b3.block kb hkb), fun e => by
    have := (World.ownsRow.there r3 e).1
    omega⟩)
  clear r3 b3 k0' hkb
  go_wp2_with fail
  go_loopw [7, 8] (fun s7 s8 wr => ∃ (j Q : Nat) (g : F) (pre' : List Nd) (wv : Value) (done : List ByteArray), wv = s7 ∧ j + g.cnt = KC ∧ s8 = .int .i64 (j : Int) ∧ j % 2 = 1 ∧ g.cnt % 2 = 0 ∧ ST.drop j = startsF g Q ∧ Q = pre'.length ∧ ns = pre' ++ (g.flat ++ post) ∧ done ++ armsT g = R ∧ (AllE W (.slice (some ⟨bd, off, none⟩) M cap) ns g ∧ AllV W (.slice (some ⟨bd, off, none⟩) M cap) ns g ∧ g.ok) ∧ chkF g (belowP 0 10) j = 0 ∧ SRow w.heap.size wr wv done ∧ Below w.heap.size w wr ∧ (kb < wr.heap.size ∧ CellsIn wr kb ko (intCells (ofNats ST)) ∧ wv.ownBlock ≠ some kb)) (fun _ s8 _ => KC - (intOf s8).toNat)
  case atStart => exact ⟨1, I + 1 + 1 + k1.sz, r, pre ++ (⟨10, t0, m0, d0⟩ :: n1 :: k1.flat), _, freeT n1 k1, rfl, by have := HKC.out; omega, rfl, rfl, HRE.out, HS0.out.2, by rw [List.length_append, ← HI.out]; simp [F.flat_length]; omega, by rw [HNS.out]; simp [F.flat], HR.out.symm, HKR.out, HCR.out, R3.out, B3.out, HKB3.out⟩
  case round =>
    obtain ⟨wo, hwo⟩ : ∃ wo : World, wo = wr := ⟨_, rfl⟩
    subst hwo
    obtain ⟨j, Q, g, pre', wv, dn, rfl, hj, rfl, hjo, hge, hdr, hQ, hns', hres, hgood, hchg, hrow, hbl, hap⟩ := hrel
    have ROW := Lib.hid hrow
    have BL := Lib.hid hbl
    have AP := Lib.hid hap
    clear hrow hbl hap
    rcases g with _ | ⟨np, kp, g2⟩
    · have hjz : ¬ ((j : Int) + 1 < (KC : Int)) := by simp [F.cnt] at hj; omega
      have e : dn = R := by simpa [armsT] using hres
      subst e
      have hj4 : j ≤ 4000 := by simp [F.cnt] at hj; omega
      clear hj hjo hge hdr hQ hns' hres hgood hchg
      go_wp2_with fail
      go_ret
      exact ⟨_, rfl, ROW.out, BL.out⟩
    · rcases g2 with _ | ⟨nb, kbd, r2⟩
      · simp [F.cnt] at hge
      · have hjl : j + 2 ≤ KC := by simp only [F.cnt] at hj; omega
        rw [startsF_cons] at hdr
        obtain ⟨d1, d2, d3⟩ := drop_head hdr
        rw [startsF_cons] at d3
        obtain ⟨f1, f2, f3⟩ := drop_head d3
        have cj := AP.out.2.1.int j (by simpa [ofNats] using d1)
        rw [ofNats_get, d2] at cj
        have cj1 := AP.out.2.1.int (j + 1) (by simpa [ofNats] using f1)
        rw [ofNats_get, f2] at cj1
        rw [chkF_cons, or_eq_zero, chkF_cons, or_eq_zero] at hchg
        obtain ⟨ch1, ch2, ch3⟩ := hchg
        rw [show belowP 0 10 j = 1 by simp [belowP, hjo]] at ch1
        rw [show belowP 0 10 (j + 1) = 0 by simp [belowP]; omega] at ch2
        have hvp : varT np kp = varsF (.cons np kp .nil) := by
          rw [← varsR_F (.cons np kp .nil) ⟨hgood.2.2.1, hgood.2.2.2.1, trivial⟩ (fun _ => 1) 0 (by rw [chkF_one]; exact ch1), varsR_cons]
          simp [varsR]
        have HCB := hgood.1.2.1 ch2 (pre' ++ (np :: kp.flat)) (r2.flat ++ post)
        have HCP := hgood.2.1.1 pre' (nb :: (kbd.flat ++ (r2.flat ++ post)))
        rw [show (pre' ++ (np :: kp.flat)).length = Q + 1 + kp.sz by rw [List.length_append, ← hQ]; simp [F.flat_length]; omega] at HCB
        rw [← hQ] at HCP
        obtain ⟨QB, hQB⟩ : ∃ QB, QB = Q + 1 + kp.sz := ⟨_, rfl⟩
        rw [← hQB] at cj1 HCB
        have FA : Hid (∀ W2, Below wo.heap.size wo W2 → Calls Try.prog 41 #[.slice (some ⟨bd, off, none⟩) M cap, .int .i64 (QB : Int)] W2 (SOwn (freeT nb kbd) W2)) := Lib.hid fun W2 h => HCB W2 (by rw [hns']; simp [F.flat]) (HB.out.trans ((BL.out.trans (h.mono BL.out.size)).mono HB.out.size))
        have FB : Hid (∀ W2, Below wo.heap.size wo W2 → Calls Try.prog 22 #[.slice (some ⟨bd, off, none⟩) M cap, .int .i64 (Q : Int)] W2 (SOwn (varT np kp) W2)) := Lib.hid fun W2 h => HCP W2 (by rw [hns']; simp [F.flat]) (HB.out.trans ((BL.out.trans (h.mono BL.out.size)).mono HB.out.size))
        have hz4 : (j : Int) < (KC : Int) := by omega
        have hz5 : ((j : Int) + 1 < (KC : Int)) := by omega
        have SS : Hid (∀ W2, Below wo.heap.size wo W2 → W2.cell? ⟨kb, ko + j, none⟩ = some (.int .i64 (Q : Int)) ∧ W2.cell? ⟨kb, ko + (j + 1), none⟩ = some (.int .i64 (QB : Int))) := Lib.hid fun W2 h => ⟨(h.cell (p := ⟨kb, ko + j, none⟩) AP.out.1).trans cj, (h.cell (p := ⟨kb, ko + (j + 1), none⟩) AP.out.1).trans cj1⟩
        have LENA : Hid ((freeT nb kbd).length ≤ 40000 ∧ dn.length + (lessL (freeT nb kbd) (varT np kp)).length ≤ 40000) := Lib.hid (by
          have h1 := congrArg List.length hres
          have h2 := HRL.out
          rw [hvp]
          simp only [armsT, List.length_append] at h1
          have h3 := freeT_len nb kbd
          have h4 : ns.length = pre'.length + (1 + kp.sz + (1 + kbd.sz + (r2.sz + post.length))) := by rw [hns']; simp [F.flat, F.flat_length]; omega
          have h5 : ns.length ≤ 4000 := by rw [← HM.out]; exact hN
          exact ⟨by omega, by omega⟩)
        have REST := Lib.hid (show (dn ++ lessL (freeT nb kbd) (varT np kp)) ++ armsT r2 = R ∧ (AllE W (.slice (some ⟨bd, off, none⟩) M cap) ns r2 ∧ AllV W (.slice (some ⟨bd, off, none⟩) M cap) ns r2 ∧ r2.ok) ∧ chkF r2 (belowP 0 10) (j + 1 + 1) = 0 ∧ ST.drop (j + 1 + 1) = startsF r2 (Q + 1 + kp.sz + 1 + kbd.sz) ∧ Q + 1 + kp.sz + 1 + kbd.sz = (pre' ++ (np :: (kp.flat ++ (nb :: kbd.flat)))).length ∧ ns = (pre' ++ (np :: (kp.flat ++ (nb :: kbd.flat)))) ++ (r2.flat ++ post) ∧ (j + 1 + 1) + r2.cnt = KC ∧ r2.cnt % 2 = 0 ∧ j + 2 ≤ KC from ⟨by rw [hvp, List.append_assoc]; exact hres, ⟨hgood.1.2.2, hgood.2.1.2.2, hgood.2.2.2.2.2.2⟩, ch3, f3, by rw [List.length_append, ← hQ]; simp [F.flat_length]; omega, by rw [hns']; simp [F.flat], by simp only [F.cnt] at hj; omega, by simp only [F.cnt] at hge; omega, hjl⟩)
        have OWNB := Lib.hid (show ∀ g, wv.ownBlock = some g → g < wo.heap.size ∧ w.heap.size ≤ g from fun g hg => ⟨(World.ownsRow.there ROW.out hg).2, (World.ownsRow.there ROW.out hg).1⟩)
        have RU := Lib.hid (fun W2 (h : Below wo.heap.size wo W2) => SRow.after ROW.out h)
        have GG : Hid (∀ W2 w7, Below wo.heap.size wo W2 → W2.grownBy w7 wv.ownBlock → (w7.cell? ⟨kb, ko + j, none⟩ = some (.int .i64 (Q : Int)) ∧ w7.cell? ⟨kb, ko + (j + 1), none⟩ = some (.int .i64 (QB : Int))) ∧ Below w.heap.size w w7 ∧ kb < w7.heap.size ∧ CellsIn w7 kb ko (intCells (ofNats ST))) := Lib.hid fun W2 w7 h hg =>
          have hS := SS.out W2 h
          have hlt := Nat.lt_of_lt_of_le AP.out.1 h.size
          ⟨⟨hg.cell hS.1 (fun e => AP.out.2.2 e.symm), hg.cell hS.2 (fun e => AP.out.2.2 e.symm)⟩, (BL.out.trans (h.mono BL.out.size)).grown hg (Nat.le_trans BL.out.size h.size) fun q hq => (OWNB.out q hq).2, Nat.lt_of_lt_of_le hlt hg.size, (AP.out.2.1.kept (h.block kb AP.out.1)).kept (hg.block kb hlt (fun e => AP.out.2.2 e.symm))⟩
        have hz2 : (0 : Int) ≤ (j : Int) + 1 := by omega
        have hz1 : IntKind.i64.wrap ((j : Int) + 1) = (j : Int) + 1 := IntWalk.i64_in _ (by omega)
        have hz6 : ((j : Int) + 1).toNat = j + 1 := by omega
        have HJO := Lib.hid hjo
        clear hQB hres hgood ch1 ch2 ch3 d1 d2 d3 f1 f2 f3 hQ hns' hdr hj hge HCB HCP hvp cj cj1 hjo
        go_wp2_with fail
        go_region_held3 (fun W2 => W2.cell? ⟨kb, ko + j, none⟩ = some (.int .i64 (Q : Int)) ∧ W2.cell? ⟨kb, ko + (j + 1), none⟩ = some (.int .i64 (QB : Int))) (first | exact hS7 | exact SS.out _ (by repeat' (first | assumption | exact Below.refl _ _ | apply Below.drew | (refine Below.alloc ?_ ?_ _) | exact Nat.le_refl _ | (exact Below.size (by assumption)) | (simp; done))) | fail) ((first
          | (go_at_call 41; (with_reducible refine Calls.mono (FA.out _ ?_) ?_); (exact (by repeat' (first | assumption | exact Below.refl _ _ | apply Below.drew | (refine Below.alloc ?_ ?_ _) | exact Nat.le_refl _ | (exact Below.size (by assumption)) | (simp; done)))); rintro e wA ⟨vA, rfl, r3, b3⟩; (try (have RB := Lib.hid (SRow.after RB.out (below_next (show Below wB.heap.size wB _ from (by repeat' (first | exact Below.refl _ _ | apply Below.drew | (refine Below.alloc ?_ ?_ _) | exact Nat.le_refl _ | (simp; done)))) b3)))); have bA' : Below wo.heap.size wo wA := below_next (by repeat' (first | assumption | exact Below.refl _ _ | apply Below.drew | (refine Below.alloc ?_ ?_ _) | exact Nat.le_refl _ | (exact Below.size (by assumption)) | (simp; done))) b3; obtain ⟨pA, cA, rfl⟩ := strs_form r3.at; have RA := Lib.hid r3; clear r3 b3)
          | (go_at_call 22; (with_reducible refine Calls.mono (FB.out _ ?_) ?_); (exact (by repeat' (first | assumption | exact Below.refl _ _ | apply Below.drew | (refine Below.alloc ?_ ?_ _) | exact Nat.le_refl _ | (exact Below.size (by assumption)) | (simp; done)))); rintro e wB ⟨vB, rfl, r3, b3⟩; (try (have RA := Lib.hid (SRow.after RA.out (below_next (show Below wA.heap.size wA _ from (by repeat' (first | exact Below.refl _ _ | apply Below.drew | (refine Below.alloc ?_ ?_ _) | exact Nat.le_refl _ | (simp; done)))) b3)))); have bB' : Below wo.heap.size wo wB := below_next (by repeat' (first | assumption | exact Below.refl _ _ | apply Below.drew | (refine Below.alloc ?_ ?_ _) | exact Nat.le_refl _ | (exact Below.size (by assumption)) | (simp; done))) b3; obtain ⟨pB, cB, rfl⟩ := strs_form r3.at; have RB := Lib.hid r3; clear r3 b3)
          | (go_at_call 70; (with_reducible refine Calls.mono (LSS.out _ _ (freeT nb kbd) (varT np kp) _ ?_ ?_ ?_) ?_); (exact SRow.at (SRow.after RA.out (by repeat' (first | exact Below.refl _ _ | apply Below.drew | (refine Below.alloc ?_ ?_ _) | exact Nat.le_refl _ | (simp; done))))); (exact SRow.at (SRow.after RB.out (by repeat' (first | exact Below.refl _ _ | apply Below.drew | (refine Below.alloc ?_ ?_ _) | exact Nat.le_refl _ | (simp; done))))); (exact Nat.le_trans LENA.out.1 (by decide)); rintro e wL ⟨vL, rfl, r3, b3⟩; have bL' : Below wo.heap.size wo wL := below_next (by repeat' (first | assumption | exact Below.refl _ _ | apply Below.drew | (refine Below.alloc ?_ ?_ _) | exact Nat.le_refl _ | (exact Below.size (by assumption)) | (simp; done))) b3; obtain ⟨pL, cL, rfl⟩ := strs_form r3.at; have RL := Lib.hid r3; clear r3 b3)
          | (refine step_append_any (by rfl) _ _ 31 (by rfl) w.heap.size 9 i0 (.string ByteArray.empty) 1 16 Try.underlying31 HIN.out.1 HIN.out.2.1 HIN.out.2.2.1 HIN.out.2.2.2 rfl (by decide) wv dn.length (strCells dn) rfl (RU.out _ (by repeat' (first | assumption | exact Below.refl _ _ | apply Below.drew | (refine Below.alloc ?_ ?_ _) | exact Nat.le_refl _ | (exact Below.size (by assumption)) | (simp; done)))) pL (lessL (freeT nb kbd) (varT np kp)).length cL (strCells (lessL (freeT nb kbd) (varT np kp))) rfl (by rw [length_strCells]) (strs_src (SRow.at (SRow.after RL.out (by repeat' (first | exact Below.refl _ _ | apply Below.drew | (refine Below.alloc ?_ ?_ _) | exact Nat.le_refl _ | (simp; done)))))).2 (strCells_one _) (by have := LENA.out.2; unfold maxLen; omega) (by have := LENA.out.2; omega) (Nat.le_trans BL.out.size (Below.size (show Below wo.heap.size wo _ from (by repeat' (first | assumption | exact Below.refl _ _ | apply Below.drew | (refine Below.alloc ?_ ?_ _) | exact Nat.le_refl _ | (exact Below.size (by assumption)) | (simp; done)))))) ?_; intro p9 cap9 w7 hown hgrow hblk; have hG := GG.out _ _ (by repeat' (first | assumption | exact Below.refl _ _ | apply Below.drew | (refine Below.alloc ?_ ?_ _) | exact Nat.le_refl _ | (exact Below.size (by assumption)) | (simp; done))) hgrow; have hS7 := hG.1; have RN := Lib.hid hown; have HG := Lib.hid hG.2; have HBK := Lib.hid hblk; have HSZ := Lib.hid (Below.size (show Below wo.heap.size wo _ from (by repeat' (first | assumption | exact Below.refl _ _ | apply Below.drew | (refine Below.alloc ?_ ?_ _) | exact Nat.le_refl _ | (exact Below.size (by assumption)) | (simp; done))))); clear hown hgrow hblk hG)
          | fail))
        all_goals
          go_wp2_with fail
          go_roundw
          case rel =>
            obtain ⟨q1, q2, q3, q4, q5, q6, q7, q8, q9⟩ := REST.out
            refine ⟨j + 1 + 1, Q + 1 + kp.sz + 1 + kbd.sz, r2, pre' ++ (np :: (kp.flat ++ (nb :: kbd.flat))), _, dn ++ lessL (freeT nb kbd) (varT np kp), rfl, q7, by go_num, by have := HJO.out; omega, q8, q4, q5, q6, q1, q2, q3, ?_, HG.out.1, HG.out.2.1, HG.out.2.2, ?_⟩
            · unfold SRow
              rw [List.length_append, strCells_append]
              exact RN.out
            · have hlt := AP.out.1
              have hsz := HSZ.out
              rcases HBK.out with e | e
              · rw [e]; exact AP.out.2.2
              · rw [e]
                intro e2
                have := Option.some.inj e2
                omega
          case measure => have := REST.out.2.2.2.2.2.2.2.2; simp [intOf]; omega
end Go.Proofs.Ytlalnmefppbebaa
