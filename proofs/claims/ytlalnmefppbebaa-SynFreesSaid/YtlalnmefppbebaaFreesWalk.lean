/- The document's free: names; every tree. -/
import Derived.Test.YtlalnmefppbebaaSynZc
import Derived.Test.YtlalnmefppbebaaSynZd
import Derived.Test.YtlalnmefppbebaaSynZf
import Derived.Test.YtlalnmefppbebaaSynY
import Derived.Test.YtlalnmefppbebaaSynU
import Derived.Test.YtlalnmefppbebaaSynX
import Derived.Test.YtlalnmefppbebaaSynO
namespace Go.Proofs.Ytlalnmefppbebaa
open Go.RowKit Go.Proofs.TreeMath
set_option maxRecDepth 100000 in
set_option maxHeartbeats 8000000 in
theorem rfree_name (b off n c I : Nat) (t0 : ByteArray) (m0 d0 : Int) (w : World) (hI : I < n)
    (c0 : w.cell? ⟨b, off + I * 4, none⟩ = some (.int .i64 3)) (c1 : w.cell? ⟨b, off + I * 4 + 1, none⟩ = some (.string t0)) (c2 : w.cell? ⟨b, off + I * 4 + 2, none⟩ = some (.int .i64 m0)) (c3 : w.cell? ⟨b, off + I * 4 + 3, none⟩ = some (.int .i64 d0))
    (KIDS : Hid (∀ W, Below w.heap.size w W → Calls Try.prog 42 #[.slice (some ⟨b, off, none⟩) n c, .int .i64 (I : Int)] W (KRet W []))) :
    Calls Try.prog 41 #[.slice (some ⟨b, off, none⟩) n c, .int .i64 (I : Int)] w (SOwn [t0] w) := by
  have hin : ((I : Int) < (n : Int)) := by omega
  have BA := Lib.hid (show Below w.heap.size w (w.alloc (.cells #[.int .i64 3, .string t0, .int .i64 m0, .int .i64 d0] 42)) from (Below.refl _ _).alloc (Nat.le_refl _) _)
  have KK := Lib.hid (KIDS.out _ BA.out)
  have X1 : Hid ((w.alloc (.cells #[.int .i64 3, .string t0, .int .i64 m0, .int .i64 d0] 42)).cell? ⟨w.heap.size, 0, none⟩ = some (.int .i64 3) ∧ (w.alloc (.cells #[.int .i64 3, .string t0, .int .i64 m0, .int .i64 d0] 42)).cell? ⟨w.heap.size, 1, none⟩ = some (.string t0)) := Lib.hid ⟨by simp, by simp⟩
  have hsz : w.heap.size < (w.alloc (.cells #[.int .i64 3, .string t0, .int .i64 m0, .int .i64 d0] 42)).heap.size := by simp
  go_enter Try.func41, Try.ntmps41
  go_wp2_with fail
  refine KK.out.mono ?_
  rintro e w2 ⟨kv, rfl, hkv, b2⟩
  obtain ⟨kp, kc, rfl, _⟩ := ints_cells hkv
  have x0 := (b2.cell (p := ⟨w.heap.size, 0, none⟩) hsz).trans X1.out.1
  have x1 := (b2.cell (p := ⟨w.heap.size, 1, none⟩) hsz).trans X1.out.2
  have B2 := Lib.hid (BA.out.trans (b2.mono BA.out.size))
  clear hkv b2 hsz
  have BF := Lib.hid (B2.out.alloc B2.out.size (.cells #[.string t0] 9))
  have RF := Lib.hid (World.ownsRow.base (text_row w2 t0) B2.out.size)
  go_wp2_with fail
  go_ret
  exact ⟨_, rfl, RF.out, BF.out⟩
theorem below_zero {k : Int} (h : k ≠ 10) : belowP 0 k = fun _ => 0 := by
  funext i
  simp [belowP, h]
theorem kidsB_one {k c : Int} (h : k = 5) (hy : kidsB k c = true) : c = 1 := by
  subst h; simpa [kidsB] using hy
theorem kidsB_two {k c : Int} (h : k = 7 ∨ k = 8 ∨ k = 12) (hy : kidsB k c = true) : c = 2 := by
  rcases h with h | h | h <;> (subst h; simpa [kidsB] using hy)
theorem kidsB_ten {k c : Int} (h : k = 10) (hy : kidsB k c = true) : c % 2 = 1 := by
  subst h
  have : (3 ≤ c ∧ c % 2 = 1) := by simpa [kidsB] using hy
  exact this.2
theorem kidsB_none {k c : Int} (h : k = 3) (hy : kidsB k c = true) : c = 0 := by
  subst h; simpa [kidsB] using hy
theorem less_lib : Less := fun va vb xs bs W ha hb hl => less_any va vb xs bs W ha hb hl
theorem free_good (W : World) (ns : List Nd) (bd off cap : Nat) (n : Nd) (k : F) (hN : ns.length ≤ 4000) (hat : NodesAt W (.slice (some ⟨bd, off, none⟩) ns.length cap) ns) (hb : bd < W.heap.size) (hc : Hid (CellsIn W bd off (nodeCells ns))) (hk : Hid (AllE W (.slice (some ⟨bd, off, none⟩) ns.length cap) ns k)) (hv : Hid (AllV W (.slice (some ⟨bd, off, none⟩) ns.length cap) ns k))
    (hk1 : n.kids = k.cnt) (hk2 : k.ok) (hchk : chkT n k 0 = 0) : GGood W (.slice (some ⟨bd, off, none⟩) ns.length cap) ns n k := by
  intro pre post w hns hbel
  unfold chkT at hchk
  rw [or_eq_zero] at hchk
  obtain ⟨hf, hck⟩ := hchk
  have hkb := fault_kids hf
  rw [hk1] at hkb
  by_cases g10 : n.kind = 10
  · have hodd : k.cnt % 2 = 1 := by have := kidsB_ten g10 hkb; omega
    rw [g10] at hck
    exact rfree_match W ns bd off cap n k hN hat hb hc hk hv (Lib.hid hk1) (Lib.hid hk2) g10 hodd (Lib.hid hck) (Lib.hid less_lib) pre post w hns hbel
  rw [below_zero g10] at hck
  have hlen : ns.length = pre.length + (1 + k.sz + post.length) := by rw [hns]; simp [F.flat_length]; omega
  have hi : pre.length < ns.length := by omega
  have hnode : ns.getD pre.length default = n := by rw [hns]; simp [List.getD_eq_getElem?_getD]
  have hcw := hc.out.kept (hbel.block bd hb)
  obtain ⟨c0, c1, c2, c3⟩ := hcw.node pre.length hi
  rw [hnode] at c0 c1 c2 c3
  have hkids : kidsI (kk ns) pre.length = startsF k (pre.length + 1) := by
    have := kids_flat n k hk1 hk2 pre post
    rw [← hns] at this
    exact this
  have KIDS := Lib.hid (fun (W2 : World) (hW : Below w.heap.size w W2) => ref_kids _ ns (pre.length : Int) W2 ((hat.below hbel).below hW) (by omega))
  rw [hkids] at KIDS
  have one : ∀ n1 k1 (r : F), k = .cons n1 k1 r → chkT n1 k1 0 = 0 → Hid (FreeAt bd off ns.length cap (pre.length + 1) (freeT n1 k1) w) ∧ Hid ((freeT n1 k1).length ≤ 40000) := by
    intro n1 k1 r e h1
    subst e
    refine ⟨Lib.hid fun W2 hW => ?_, Lib.hid ?_⟩
    · have := hk.out.1 h1 (pre ++ [n]) (r.flat ++ post) W2 (by rw [hns]; simp [F.flat]) (hbel.trans (hW.mono hbel.size))
      rwa [show (pre ++ [n]).length = pre.length + 1 by simp] at this
    · have := freeT_len n1 k1
      simp only [F.sz] at hlen
      omega
  have two : ∀ n1 k1 n2 k2, k = .cons n1 k1 (.cons n2 k2 .nil) → chkT n2 k2 0 = 0 → Hid (FreeAt bd off ns.length cap (pre.length + 1 + 1 + k1.sz) (freeT n2 k2) w) ∧ Hid ((freeT n2 k2).length ≤ 40000) := by
    intro n1 k1 n2 k2 e h1
    subst e
    refine ⟨Lib.hid fun W2 hW => ?_, Lib.hid ?_⟩
    · have := hk.out.2.1 h1 (pre ++ (n :: n1 :: k1.flat)) post W2 (by rw [hns]; simp [F.flat]) (hbel.trans (hW.mono hbel.size))
      rwa [show (pre ++ (n :: n1 :: k1.flat)).length = pre.length + 1 + 1 + k1.sz by simp [F.flat_length]; omega] at this
    · have := freeT_len n2 k2
      simp only [F.sz] at hlen
      omega
  obtain ⟨kd, t0, m0, d0⟩ := n
  simp only at c0 c1 c2 c3 hkb g10
  by_cases g3 : kd = 3
  · subst g3
    have h0 : k.cnt = 0 := by have := kidsB_none rfl hkb; omega
    obtain rfl := cnt_nil h0
    exact rfree_name bd off ns.length cap pre.length t0 m0 d0 w hi c0 c1 c2 c3 KIDS
  by_cases g5 : kd = 5
  · subst g5
    obtain ⟨n1, k1, rfl⟩ := cnt_one (k := k) (by have := kidsB_one rfl hkb; omega)
    rw [chkF_cons, or_eq_zero] at hck
    obtain ⟨a, b⟩ := one _ _ _ rfl hck.1
    rw [free_fun1 (n := ⟨5, t0, m0, d0⟩) rfl]
    exact rfree_fun bd off ns.length cap pre.length _ t0 m0 d0 _ w hi c0 c1 c2 c3 KIDS a (Lib.hid less_lib) b
  by_cases g7 : kd = 7
  · subst g7
    obtain ⟨n1, k1, n2, k2, rfl⟩ := cnt_two (k := k) (by have := kidsB_two (.inl rfl) hkb; omega)
    rw [chkF_cons, chkF_cons, or_eq_zero, or_eq_zero] at hck
    obtain ⟨a, b⟩ := one _ _ _ rfl hck.1
    obtain ⟨a2, b2⟩ := two _ _ _ _ rfl hck.2.1
    rw [free_let (n := ⟨7, t0, m0, d0⟩) (.inl rfl)]
    exact rfree_let bd off ns.length cap pre.length _ _ t0 m0 d0 _ _ w hi c0 c1 c2 c3 KIDS a a2 (Lib.hid less_lib) b b2
  by_cases g8 : kd = 8
  · subst g8
    obtain ⟨n1, k1, n2, k2, rfl⟩ := cnt_two (k := k) (by have := kidsB_two (.inr (.inl rfl)) hkb; omega)
    rw [chkF_cons, chkF_cons, or_eq_zero, or_eq_zero] at hck
    obtain ⟨a, b⟩ := one _ _ _ rfl hck.1
    obtain ⟨a2, b2⟩ := two _ _ _ _ rfl hck.2.1
    rw [free_rec (n := ⟨8, t0, m0, d0⟩) rfl]
    exact rfree_rec bd off ns.length cap pre.length _ _ t0 m0 d0 _ _ w hi c0 c1 c2 c3 KIDS a a2 (Lib.hid less_lib) b b2
  by_cases g12 : kd = 12
  · subst g12
    obtain ⟨n1, k1, n2, k2, rfl⟩ := cnt_two (k := k) (by have := kidsB_two (.inr (.inr rfl)) hkb; omega)
    rw [chkF_cons, chkF_cons, or_eq_zero, or_eq_zero] at hck
    obtain ⟨a, b⟩ := one _ _ _ rfl hck.1
    obtain ⟨a2, b2⟩ := two _ _ _ _ rfl hck.2.1
    rw [free_let (n := ⟨12, t0, m0, d0⟩) (.inr rfl)]
    exact rfree_try bd off ns.length cap pre.length _ _ t0 m0 d0 _ _ w hi c0 c1 c2 c3 KIDS a a2 (Lib.hid less_lib) b b2
  exact rfree_other W ns bd off cap ⟨kd, t0, m0, d0⟩ k hN hat hb hc hk (Lib.hid hk1) (Lib.hid hk2) g3 g5 g7 g8 g10 g12 (Lib.hid hck) pre post w hns hbel
theorem free_all (W : World) (ns : List Nd) (bd off cap : Nat) (hN : ns.length ≤ 4000) (hat : NodesAt W (.slice (some ⟨bd, off, none⟩) ns.length cap) ns) (hb : bd < W.heap.size) (hc : CellsIn W bd off (nodeCells ns)) (f : F) : f.ok → AllE W (.slice (some ⟨bd, off, none⟩) ns.length cap) ns f := by
  induction f with
  | nil => intro _; trivial
  | cons n k r hk hr =>
    rintro ⟨h1, h2, h3⟩
    exact ⟨free_good W ns bd off cap n k hN hat hb (Lib.hid hc) (Lib.hid (hk h2)) (Lib.hid (vars_all W ns bd off cap hN hat hb hc k h2)) h1 h2, hr h3⟩
/-- The reference's free: function 21. -/
theorem rfree_any (v : Value) (n : Nd) (k : F) (w : World) (h1 : n.kids = k.cnt) (h2 : k.ok) (hN : (n :: k.flat).length ≤ 4000) (hz : synE (.cons n k .nil) 0 = 0) (h : NodesAt w v (n :: k.flat)) : Calls Try.prog 21 #[v] w (SRet (addAll [] (freeT n k)) w) := by
  obtain ⟨bd, off, cap, rfl, q1, q2, q3, q4⟩ := nodes_slice h (by simp)
  have hch := (synE_zero hz).2.2.1
  rw [chkF_one] at hch
  have a := (free_all w _ bd off cap hN h q3 q4 (.cons n k .nil) ⟨h1, h2, trivial⟩).1 hch [] [] w (by simp) (Below.refl _ _)
  exact rfree_in _ _ w (Lib.hid a) (by have := freeT_len n k; rw [List.length_cons, F.flat_length] at hN; omega)
/-- The reference's names: function 22. -/
theorem rvars_any (v : Value) (n : Nd) (k : F) (w : World) (h1 : n.kids = k.cnt) (h2 : k.ok) (hN : (n :: k.flat).length ≤ 4000) (hz : synE (.cons n k .nil) 1 = 0) (h : NodesAt w v (n :: k.flat)) : Calls Try.prog 22 #[v, .int .i64 0] w (SRet (varsL (n :: k.flat)) w) := by
  obtain ⟨bd, off, cap, rfl, q1, q2, q3, q4⟩ := nodes_slice h (by simp)
  have hch := (synE_zero hz).2.2.1
  have a := (vars_all w _ bd off cap hN h q3 q4 (.cons n k .nil) ⟨h1, h2, trivial⟩).1 [] [] w (by simp) (Below.refl _ _)
  have e : varT n k = varsL (n :: k.flat) := by
    have := varsR_F (.cons n k .nil) ⟨h1, h2, trivial⟩ _ _ hch
    rw [← one_flat, vars_flat, ← this]
    simp [varsR, varT]
  rw [e] at a
  refine Calls.mono a ?_
  rintro e w' ⟨v', rfl, r, b⟩
  exact ⟨_, rfl, r.at, b⟩
end Go.Proofs.Ytlalnmefppbebaa

/- The walk of SynFrees. -/
namespace Go.Proofs.Ytlalnmefppbebaa
open Go.RowKit Go.Proofs.TreeMath
set_option maxRecDepth 100000 in
set_option maxHeartbeats 8000000 in
theorem frees_a (p : Option Addr) (n c : Nat) (ns : List Nd) (w : World) (H : Hid (NodesAt w (.slice p n c) ns)) (FW : Hid (fewB ns = false)) :
    Calls Try.prog 4 #[.slice p n c] w (RB true w) := by
  have FEW := Lib.hid (fun W (hW : Below w.heap.size w W) => few_any _ ns W (H.out.below hW))
  rw [FW.out] at FEW
  go_enter Try.func4, Try.ntmps4
  go_wp2_with fail
  refine (awake_any _).mono ?_
  rintro e w1 ⟨rfl, b1⟩
  have B1 := Lib.hid b1
  clear b1
  go_wp2_with fail
  refine (FEW.out _ B1.out).mono ?_
  rintro e w2 ⟨rfl, rfl⟩
  go_wp2_with fail
  refine (awake_any _).mono ?_
  rintro e w3 ⟨rfl, b3⟩
  have B3 := Lib.hid (B1.out.trans (b3.mono B1.out.size))
  clear b3
  go_wp2_with fail
  go_ret
  exact ⟨rfl, B3.out⟩
theorem strs_none (w : World) : StrsAt (w.alloc (.cells #[] 9)) (.slice (some ⟨w.heap.size, 0, none⟩) 0 0) [] :=
  SRow.at (World.ownsRow_made w #[] 0 (Nat.le_refl _) (by simp [maxLen]) rfl)
theorem StrsAt.as {w : World} {v : Value} {a b : List ByteArray} (h : StrsAt w v a) (e : b = a) : StrsAt w v b := e ▸ h
set_option maxRecDepth 100000 in
set_option maxHeartbeats 1000000 in
theorem frees_b (p : Option Addr) (n c : Nat) (ns : List Nd) (x y : Int) (fs vs : List ByteArray) (w : World) (H : Hid (NodesAt w (.slice p n c) ns)) (FW : Hid (fewB ns = true)) (CX : Hid (CheckIs ns 0 x)) (CY : Hid (CheckIs ns 1 y)) (FX : Hid (FreeIs ns fs)) (VY : Hid (NamesIs ns vs))
    (RF : Hid (x = 0 → ∀ v W, NodesAt W v ns → Calls Try.prog 21 #[v] W (SRet fs W))) (RV : Hid (y = 0 → ∀ v W, NodesAt W v ns → Calls Try.prog 22 #[v, .int .i64 0] W (SRet vs W))) (NF : Hid (x ≠ 0 → fs = [])) (NV : Hid (y ≠ 0 → vs = [])) :
    Calls Try.prog 4 #[.slice p n c] w (RB true w) := by
  have FEW := Lib.hid (fun W (hW : Below w.heap.size w W) => few_any _ ns W (H.out.below hW))
  rw [FW.out] at FEW
  have HN : Hid (ns.length ≤ 1000000) := Lib.hid (by have := (few_yes FW.out).1; omega)
  have CHX := Lib.hid (fun W (hW : Below w.heap.size w W) => rcheck_any _ ns false x W (H.out.below hW) (by have := (few_yes FW.out).1; omega) (few_yes FW.out).2 CX.out)
  have CHY := Lib.hid (fun W (hW : Below w.heap.size w W) => rcheck_any _ ns true y W (H.out.below hW) (by have := (few_yes FW.out).1; omega) (few_yes FW.out).2 CY.out)
  have FRE := Lib.hid (fun v W (h : NodesAt W v ns) => Free_any v ns fs W h (by have := (few_yes FW.out).1; omega) (few_yes FW.out).2 FX.out)
  have NMS := Lib.hid (fun v W (h : NodesAt W v ns) => Names_any v ns vs W h (by have := (few_yes FW.out).1; omega) (few_yes FW.out).2 VY.out)
  go_enter Try.func4, Try.ntmps4
  go_wp2_with fail
  refine (awake_any _).mono ?_
  rintro e w1 ⟨rfl, b1⟩
  have B1 := Lib.hid b1
  clear b1
  go_wp2_with fail
  refine (FEW.out _ B1.out).mono ?_
  rintro e w2 ⟨rfl, rfl⟩
  go_wp2_with fail
  refine (own_bel _ ns w _ H.out HN.out B1.out).mono ?_
  rintro e w3 ⟨v3, rfl, h3, b3⟩
  have B3 := Lib.hid (B1.out.trans (b3.mono B1.out.size))
  clear b3
  obtain ⟨p3, c3, rfl⟩ := nodes_form h3
  have H3 := Lib.hid h3
  clear h3
  go_wp2_with fail
  refine (FRE.out _ _ H3.out).mono ?_
  rintro e w4 ⟨v4, rfl, h4, b4⟩
  have B4 := Lib.hid (B3.out.trans (b4.mono B3.out.size))
  clear b4
  obtain ⟨p4, c4, rfl⟩ := strs_form h4
  have H4 := Lib.hid h4
  clear h4
  go_wp2_with fail
  refine (own_bel _ ns w _ H.out HN.out B4.out).mono ?_
  rintro e w5 ⟨v5, rfl, h5, b5⟩
  have B5 := Lib.hid (B4.out.trans (b5.mono B4.out.size))
  have A5 := Lib.hid (StrsAt.below H4.out b5)
  clear b5
  obtain ⟨p5, c5, rfl⟩ := nodes_form h5
  have H5 := Lib.hid h5
  clear h5
  go_wp2_with fail
  refine (NMS.out _ _ H5.out).mono ?_
  rintro e w6 ⟨v6, rfl, h6, b6⟩
  have B6 := Lib.hid (B5.out.trans (b6.mono B5.out.size))
  have A6 := Lib.hid (StrsAt.below A5.out b6)
  clear b6
  obtain ⟨p6, c6, rfl⟩ := strs_form h6
  have H6 := Lib.hid h6
  clear h6 FRE NMS FEW
  have bz : Below w6.heap.size w6 ((w6.alloc (.cells #[] 9)).alloc (.cells #[] 9)) := ((Below.refl _ _).alloc (Nat.le_refl _) _).alloc (by simp) _
  have BZ := Lib.hid (B6.out.trans (bz.mono B6.out.size))
  have AZ := Lib.hid (StrsAt.below A6.out bz)
  have VZ := Lib.hid (StrsAt.below H6.out bz)
  have E1 := Lib.hid (StrsAt.below (strs_none w6) (show Below (w6.alloc (.cells #[] 9)).heap.size (w6.alloc (.cells #[] 9)) ((w6.alloc (.cells #[] 9)).alloc (.cells #[] 9)) from (Below.refl _ _).alloc (Nat.le_refl _) _))
  have E2 := Lib.hid (strs_none (w6.alloc (.cells #[] 9)))
  rw [show (w6.alloc (.cells #[] 9)).heap.size = w6.heap.size + 1 by simp] at E2
  clear bz
  have CX7 := Lib.hid (CHX.out _ BZ.out)
  go_wp2_with fail
  refine CX7.out.mono ?_
  rintro e w8 ⟨rfl, b8⟩
  have B8 := Lib.hid (BZ.out.trans (b8.mono BZ.out.size))
  have A8 := Lib.hid (StrsAt.below AZ.out b8)
  have V8 := Lib.hid (StrsAt.below VZ.out b8)
  have F8 := Lib.hid (StrsAt.below E1.out b8)
  have G8 := Lib.hid (StrsAt.below E2.out b8)
  clear b8 CX7
  by_cases hx : x = 0
  · have RFF := Lib.hid (RF.out hx _ _ (H.out.below B8.out))
    subst hx
    clear RF
    go_wp2_with fail
    refine RFF.out.mono ?_
    rintro e w9 ⟨v9, rfl, h9, b9⟩
    obtain ⟨p9, c9, rfl⟩ := strs_form h9
    have F9 := Lib.hid h9
    have B9 := Lib.hid (B8.out.trans (b9.mono B8.out.size))
    have A9 := Lib.hid (StrsAt.below A8.out b9)
    have V9 := Lib.hid (StrsAt.below V8.out b9)
    have G9 := Lib.hid (StrsAt.below G8.out b9)
    clear h9 b9 RFF
    have CY7 := Lib.hid (CHY.out _ B9.out)
    go_wp2_with fail
    refine CY7.out.mono ?_
    rintro e wa ⟨rfl, ba⟩
    have Ba := Lib.hid (B9.out.trans (ba.mono B9.out.size))
    have Aa := Lib.hid (StrsAt.below A9.out ba)
    have Va := Lib.hid (StrsAt.below V9.out ba)
    have Fa := Lib.hid (StrsAt.below F9.out ba)
    have Ga := Lib.hid (StrsAt.below G9.out ba)
    clear ba CY7
    by_cases hy : y = 0
    · have RVV := Lib.hid (RV.out hy _ _ (H.out.below Ba.out))
      subst hy
      clear CHY CHX CX CY RV
      go_wp2_with fail
      refine RVV.out.mono ?_
      rintro e wb ⟨vb, rfl, hb, bb⟩
      obtain ⟨pb, cb, rfl⟩ := strs_form hb
      have Gb := Lib.hid hb
      have Bb := Lib.hid (Ba.out.trans (bb.mono Ba.out.size))
      have Ab := Lib.hid (StrsAt.below Aa.out bb)
      have Vb := Lib.hid (StrsAt.below Va.out bb)
      have Fb := Lib.hid (StrsAt.below Fa.out bb)
      clear hb bb RVV
      go_wp2_with fail
      refine (same_any _ _ _ _ Ab.out Fb.out).mono ?_
      rintro e y1 ⟨rfl, c1⟩
      have C1 := Lib.hid (Bb.out.trans (c1.mono Bb.out.size))
      have VV := Lib.hid (StrsAt.below Vb.out c1)
      have GG := Lib.hid (StrsAt.below Gb.out c1)
      clear c1
      go_wp2_with fail
      refine (same_any _ _ _ _ VV.out GG.out).mono ?_
      rintro e y2 ⟨rfl, c2⟩
      have C2 := Lib.hid (C1.out.trans (c2.mono C1.out.size))
      clear c2
      go_wp2_with fail
      go_ret
      exact ⟨rfl, C2.out⟩
    · have gy : (y == 0) = false := by simpa using hy
      have Gq := Lib.hid (StrsAt.as Ga.out (NV.out hy))
      clear CHY CHX CX CY RV
      go_wp2_with fail
      refine (same_any _ _ _ _ Aa.out Fa.out).mono ?_
      rintro e y1 ⟨rfl, c1⟩
      have C1 := Lib.hid (Ba.out.trans (c1.mono Ba.out.size))
      have VV := Lib.hid (StrsAt.below Va.out c1)
      have GG := Lib.hid (StrsAt.below Gq.out c1)
      clear c1
      go_wp2_with fail
      refine (same_any _ _ _ _ VV.out GG.out).mono ?_
      rintro e y2 ⟨rfl, c2⟩
      have C2 := Lib.hid (C1.out.trans (c2.mono C1.out.size))
      clear c2
      go_wp2_with fail
      go_ret
      exact ⟨rfl, C2.out⟩
  · have gx : (x == 0) = false := by simpa using hx
    have F8 := Lib.hid (StrsAt.as F8.out (NF.out hx))
    clear RF
    have CY7 := Lib.hid (CHY.out _ B8.out)
    go_wp2_with fail
    refine CY7.out.mono ?_
    rintro e wa ⟨rfl, ba⟩
    have Ba := Lib.hid (B8.out.trans (ba.mono B8.out.size))
    have Aa := Lib.hid (StrsAt.below A8.out ba)
    have Va := Lib.hid (StrsAt.below V8.out ba)
    have Fa := Lib.hid (StrsAt.below F8.out ba)
    have Ga := Lib.hid (StrsAt.below G8.out ba)
    clear ba CY7
    by_cases hy : y = 0
    · have RVV := Lib.hid (RV.out hy _ _ (H.out.below Ba.out))
      subst hy
      clear CHY CHX CX CY RV
      go_wp2_with fail
      refine RVV.out.mono ?_
      rintro e wb ⟨vb, rfl, hb, bb⟩
      obtain ⟨pb, cb, rfl⟩ := strs_form hb
      have Gb := Lib.hid hb
      have Bb := Lib.hid (Ba.out.trans (bb.mono Ba.out.size))
      have Ab := Lib.hid (StrsAt.below Aa.out bb)
      have Vb := Lib.hid (StrsAt.below Va.out bb)
      have Fb := Lib.hid (StrsAt.below Fa.out bb)
      clear hb bb RVV
      go_wp2_with fail
      refine (same_any _ _ _ _ Ab.out Fb.out).mono ?_
      rintro e y1 ⟨rfl, c1⟩
      have C1 := Lib.hid (Bb.out.trans (c1.mono Bb.out.size))
      have VV := Lib.hid (StrsAt.below Vb.out c1)
      have GG := Lib.hid (StrsAt.below Gb.out c1)
      clear c1
      go_wp2_with fail
      refine (same_any _ _ _ _ VV.out GG.out).mono ?_
      rintro e y2 ⟨rfl, c2⟩
      have C2 := Lib.hid (C1.out.trans (c2.mono C1.out.size))
      clear c2
      go_wp2_with fail
      go_ret
      exact ⟨rfl, C2.out⟩
    · have gy : (y == 0) = false := by simpa using hy
      have Gq := Lib.hid (StrsAt.as Ga.out (NV.out hy))
      clear CHY CHX CX CY RV
      go_wp2_with fail
      refine (same_any _ _ _ _ Aa.out Fa.out).mono ?_
      rintro e y1 ⟨rfl, c1⟩
      have C1 := Lib.hid (Ba.out.trans (c1.mono Ba.out.size))
      have VV := Lib.hid (StrsAt.below Va.out c1)
      have GG := Lib.hid (StrsAt.below Gq.out c1)
      clear c1
      go_wp2_with fail
      refine (same_any _ _ _ _ VV.out GG.out).mono ?_
      rintro e y2 ⟨rfl, c2⟩
      have C2 := Lib.hid (C1.out.trans (c2.mono C1.out.size))
      clear c2
      go_wp2_with fail
      go_ret
      exact ⟨rfl, C2.out⟩
theorem frees_walk (v : Value) (ns : List Nd) (w : World) (h : NodesAt w v ns) : Calls Try.prog 4 #[v] w (RB true w) := by
  obtain ⟨p, c, rfl⟩ := nodes_form h
  cases hf : fewB ns with
  | false => exact frees_a p _ c ns w (Lib.hid h) (Lib.hid hf)
  | true =>
    have hN : ns.length ≤ 4000 := by have := (few_yes hf).1; omega
    have fx : ∃ (x : Int) (fs : List ByteArray), CheckIs ns 0 x ∧ FreeIs ns fs ∧ (x = 0 → ∀ v W, NodesAt W v ns → Calls Try.prog 21 #[v] W (SRet fs W)) ∧ (x ≠ 0 → fs = []) := by
      obtain ⟨x, hx⟩ := check_ex ns 0
      by_cases h0 : x = 0
      · have hx' := hx
        rcases hx with ⟨_, e⟩ | ⟨f, h1, h2, h3, h4⟩
        · rw [e] at h0; cases h0
        · obtain ⟨n, k, rfl⟩ := one_of f h2
          rw [one_flat] at h3
          have hz : synE (.cons n k .nil) 0 = 0 := by rw [← h4, h0]
          refine ⟨x, addAll [] (freeT n k), hx', .inr ⟨n, k, h1.1, h1.2.1, h3, hz, rfl⟩, fun _ v W hv => ?_, fun h => absurd h0 h⟩
          rw [← h3] at hv hN
          exact rfree_any v n k W h1.1 h1.2.1 hN hz hv
      · exact ⟨x, [], hx, .inl ⟨x, hx, h0, rfl⟩, fun h => absurd h h0, fun _ => rfl⟩
    have vy : ∃ (y : Int) (vs : List ByteArray), CheckIs ns 1 y ∧ NamesIs ns vs ∧ (y = 0 → ∀ v W, NodesAt W v ns → Calls Try.prog 22 #[v, .int .i64 0] W (SRet vs W)) ∧ (y ≠ 0 → vs = []) := by
      obtain ⟨y, hy⟩ := check_ex ns 1
      by_cases h0 : y = 0
      · have hy' := hy
        rcases hy with ⟨_, e⟩ | ⟨f, h1, h2, h3, h4⟩
        · rw [e] at h0; cases h0
        · obtain ⟨n, k, rfl⟩ := one_of f h2
          rw [one_flat] at h3
          have hz : synE (.cons n k .nil) 1 = 0 := by rw [← h4, h0]
          refine ⟨y, varsL ns, hy', ⟨y, hy', by rw [if_pos h0]⟩, fun _ v W hv => ?_, fun h => absurd h0 h⟩
          rw [← h3] at hv hN ⊢
          exact rvars_any v n k W h1.1 h1.2.1 hN hz hv
      · exact ⟨y, [], hy, ⟨y, hy, by rw [if_neg h0]⟩, fun h => absurd h h0, fun _ => rfl⟩
    obtain ⟨x, fs, cx, fi, rf, nf⟩ := fx
    obtain ⟨y, vs, cy, ni, rv, nv⟩ := vy
    exact frees_b p _ c ns x y fs vs w (Lib.hid h) (Lib.hid hf) (Lib.hid cx) (Lib.hid cy) (Lib.hid fi) (Lib.hid ni) (Lib.hid rf) (Lib.hid rv) (Lib.hid nf) (Lib.hid nv)
end Go.Proofs.Ytlalnmefppbebaa
