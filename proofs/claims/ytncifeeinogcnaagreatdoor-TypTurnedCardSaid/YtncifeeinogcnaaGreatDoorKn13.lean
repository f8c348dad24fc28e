/- Texts of this seat, one behind the other: TyP, LxMath, LxDigs, LxLexA, LxLexB, LxLexD. -/
import Derived.Test.YtncifeeinogcnaaGreatDoorKn12
import Derived.Test.YtncifeeinogcnaaGreatDoorKn10
import Derived.RowKit
import Derived.IntWalk
import Derived.Laws.BytesArg
/- The contract of circular. -/
set_option maxRecDepth 100000
namespace Go.Proofs.YtncifeeinogcnaaGreatDoor
open Go.RowKit Go.Lib Go.Proofs.TreeMath

inductive CirP (B sb : Nat) (S : SS) (tr : Nat → T) (bd : List Nat) (nx mv : Value) (m : Int) (w : World) (e : Ending) (w' : World) : Prop
  | yes (he : e = .returned (.bool true)) (a : Nat) (hc : Rch (S.gr tr) S.rep a a) (fr : Frm (DS S sb) w.heap.size w w')
  | no (he : e = .returned (.bool false)) (mk : Nat → Int) (hm : ∀ x ∈ S.dom, mk x ≤ m + 2) (tw : TW B w' { S with mr := mk }) (hs : w'.heap[sb]? = some (.cells #[nx, mv, .int .i64 (m + 2)] 95 (0, 0))) (ha : ∀ y ∈ bd, Acc (Ed (S.gr tr) S.rep) (S.rep y)) (fr : Frm (DS S sb) w.heap.size w w')
set_option maxHeartbeats 4000000 in
theorem circular_any (B sb M : Nat) (S : SS) (tr : Nat → T) (bd : List Nat) (nx mv : Value) (m : Int) (v : Value) (w : World) (hG : (S.gr tr).Ok) (hT : TW B w S) (hrow : w.ownsRow B 93 1 v bd.length (bd.map pv)) (hbd : ∀ y ∈ bd, y ∈ S.dom)
    (hs : w.heap[sb]? = some (.cells #[nx, mv, .int .i64 m] 95 (0, 0))) (hmr : ∀ x ∈ S.dom, S.mr x ≤ m) (hm0 : 0 ≤ m) (hm1 : m ≤ 1000000000000) (rin : ∀ x, x ∈ S.dom → S.rep x ∈ S.dom) (rid : ∀ x, S.rep (S.rep x) = S.rep x)
    (hM : mC (S.gr tr) S.dom S.mr (m + 1) bd ≤ M) (hM9 : M ≤ 1000000000) :
    Calls Tryz.prog 81 #[pv sb, v] w (CirP B sb S tr bd nx mv m w) := by
  have s2 := cell_of_heap hs 2
  have f2 := frozen_of_heap hs 2
  simp only [List.getElem?_toArray, List.getElem?_cons_succ, List.getElem?_cons_zero] at s2
  obtain ⟨q, c, rfl⟩ := row_form hrow
  obtain ⟨n, hn⟩ : ∃ n, n = bd.length := ⟨_, rfl⟩
  rw [← hn] at hrow ⊢
  have hn9 : n ≤ 1000000000 := by unfold mC at hM; omega
  have HS := Lib.hid hs
  have HT := Lib.hid hT
  have HROW := Lib.hid hrow
  have HN := Lib.hid hn
  have HMR := Lib.hid hmr
  have HBD := Lib.hid hbd
  have GN := Lib.hid hG
  have RIN := Lib.hid rin
  have RID := Lib.hid rid
  have HM := Lib.hid (And.intro hM hM9)
  clear hs hT hrow hn hmr hbd hG rin rid hM hM9
  unfold pv
  go_enter Tryz.func81, Tryz.ntmps81
  go_wp2
  go_quiet (fail)
  have C0 : Hid (CR B w.heap.size sb S nx mv (m + 2) w ((w.drewN nq).setCell ⟨sb, 2, none⟩ (.int .i64 (m + 2))) (.slice none 0 0) [] S.mr) := by
    have b1 : Below w.heap.size w (w.drewN nq) := below_drewN (Below.refl _ _) nq
    have hs1 : (w.drewN nq).heap[sb]? = some (.cells #[nx, mv, .int .i64 m] 95 (0, 0)) := HS.out
    have ht1 := HT.out.below (b1.mono HT.out.fit)
    refine ⟨?_, World.ownsRow_nil _ _ _ _, by rw [set_blk hs1]; rfl, (Frm.of_below b1).setCell (x := sb) (i := 2) (.inr rfl) _, by simp [World.setCell, World.drewN]⟩
    obtain ⟨y, k⟩ := ht1
    have nsb : ∀ x ∈ S.dom, x ≠ sb := fun x hx => TW.ne_sb ⟨y, k⟩ hs1 hx
    refine ⟨y, k.lead, k.bin, fun x hx => ?_, k.kin, by have := k.fit; simpa [World.setCell] using this⟩
    obtain ⟨h1, kv, h2, h3⟩ := k.blk x hx
    refine ⟨h1, kv, by rw [Below.heap_setCell _ _ _ _ (nsb x hx)]; exact h2, fun e => (h3 e).of_block fun g hg => Below.heap_setCell _ _ _ _ ?_⟩
    show g ≠ sb
    rintro rfl
    obtain ⟨cur, hc⟩ := (h3 e).ty hg
    rw [hs1] at hc; simp at hc
  have s2' : (w.drewN nq).cell? ⟨sb, 2, none⟩ = some (.int .i64 m) := s2
  have f2' : (w.drewN nq).frozen? ⟨sb, 2, none⟩ = false := f2
  clear s2 f2
  -- the row of those to be asked
  have BC : Hid (∀ wr, Frm (DS S sb) w.heap.size w wr → ∀ k, k < n → ∃ g, q = some ⟨g, 0, none⟩ ∧ wr.cell? ⟨g, k, none⟩ = some (.pointer (some ⟨bd.getD k 0, 0, none⟩))) := Lib.hid fun wr hf k hk => by
    have hr := HROW.out
    rcases hr.2 with ⟨_, e⟩ | ⟨g, cap, cur, e, hBg, hg, hn1, hm1, hs1, ht⟩
    · omega
    · simp only [Value.slice.injEq, true_and] at e
      obtain ⟨rfl, rfl⟩ := e
      have hgl : g < w.heap.size := (Array.getElem?_eq_some_iff.1 hg).1
      have hb : wr.heap[g]? = w.heap[g]? := hf.block g hgl fun hd => by
        rcases hd with hd | rfl
        · have := (HT.out.blk hd).1; omega
        · rw [HS.out] at hg; simp at hg
      refine ⟨g, rfl, ?_⟩
      have := hr.cells (g := g) rfl k (pv (bd.getD k 0)) (by rw [HN.out] at hk; simp [List.getD_eq_getElem?_getD, hk])
      rw [Go.WideShapes.add_plain, Nat.zero_add] at this
      rw [World.cell?_of_block (w := w) (a := ⟨g, k, none⟩) hb]
      exact this
  obtain ⟨j0, j1, j2, j3, j4⟩ := info79
  have HJ := Lib.hid (And.intro j1 (And.intro j2 (And.intro j3 j4)))
  clear j1 j2 j3 j4
  have ROOT : Hid (∀ mk x W, x ∈ S.dom → TW B W { S with mr := mk } → Calls Tryz.prog 58 #[.pointer (some ⟨x, 0, none⟩)] W (RootP B { S with mr := mk } (S.rep x) W)) := Lib.hid fun mk x W hx hT => root_any B { S with mr := mk } x W hx hT
  have HBC := Lib.hid HT.out.fit
  go_wp2
  go_loopw [7, 29] (fun p i wr => ∃ k : Nat, k ≤ n ∧ i = .int .i64 k ∧ Hid (CR B w.heap.size sb S nx mv (m + 2) w wr p ((bd.take k).map S.rep).reverse S.mr)) (fun _ i _ => n - (intOf i).toNat)
  case atStart => exact ⟨0, Nat.zero_le _, rfl, C0.out⟩
  case round =>
    clear C0 s2' f2'
    obtain ⟨k, hk, rfl, hC⟩ := hrel
    by_cases hlt : k < n
    · obtain ⟨g, rfl, hc⟩ := BC.out wr hC.out.fr k hlt
      obtain ⟨y, hy⟩ : ∃ y, y = bd.getD k 0 := ⟨_, rfl⟩
      rw [← hy] at hc
      have hyd : y ∈ S.dom := by
        rw [hy, List.getD_eq_getElem?_getD, List.getElem?_eq_getElem (by rw [← HN.out]; exact hlt)]
        exact HBD.out _ (List.getElem_mem _)
      have HYD := Lib.hid hyd
      have HY := Lib.hid hy
      obtain ⟨qp, cp, rfl⟩ := row_form hC.out.path
      clear hy hyd
      have hlP : ((bd.take k).map S.rep).reverse.length = k := by rw [List.length_reverse, List.length_map, List.length_take, ← HN.out]; omega
      have HLP := Lib.hid hlP
      rw [hlP] at hC ⊢
      clear hlP
      go_wp2_with fail
      refine Calls.mono (ROOT.out S.mr y _ HYD.out hC.out.tw) ?_
      rintro e w1 hR
      have hC1 := hC.out.root HBC.out hR
      obtain ⟨rfl, _, _⟩ := hR
      unfold pv
      have ROW := Lib.hid (show (w1.alloc (.cells #[.pointer (some ⟨S.rep y, 0, none⟩)] 93)).ownsRow w.heap.size 93 1 (.slice qp k cp) k (((bd.take k).map S.rep).reverse.reverse.map pv) by
        have := hC1.path.alloc (.cells #[.pointer (some ⟨S.rep y, 0, none⟩)] 93)
        rw [HLP.out] at this
        exact this)
      have HC1 := Lib.hid hC1
      have HMX := Lib.hid (show k + 1 ≤ maxLen ∧ (k + 1) * 8 ≤ 140737488355328 ∧ w.heap.size ≤ (w1.alloc (.cells #[.pointer (some ⟨S.rep y, 0, none⟩)] 93)).heap.size from ⟨by unfold maxLen; omega, by omega, by have := hC1.le; simp; omega⟩)
      clear hC1 hc
      go_wp2_with (at_builtin; refine wpList_append_any _ rfl _ _ 126 rfl w.heap.size 93 j0 (.pointer none) 1 8 Tryz.underlying126 HJ.out.1 HJ.out.2.1 HJ.out.2.2.1 HJ.out.2.2.2 rfl (by decide) (.slice qp k cp) k (((bd.take k).map S.rep).reverse.reverse.map pv) rfl ROW.out (some ⟨w1.heap.size, 0, none⟩) 1 1 [.pointer (some ⟨S.rep y, 0, none⟩)] rfl rfl (fun _ => ⟨_, rfl, cell_one_new _ _ _⟩) (by intro u hu; simp at hu; rw [hu]; rfl) HMX.out.1 HMX.out.2.1 HMX.out.2.2 ?_; intro p' cap' w7 hown hgrow hblk; have RN := Lib.hid hown; have GRN := Lib.hid hgrow; clear hown hgrow hblk)
      go_roundw
      case rel =>
        refine ⟨k + 1, by omega, by go_num, ?_⟩
        have e : ((bd.take (k + 1)).map S.rep).reverse = S.rep y :: ((bd.take k).map S.rep).reverse := by
          rw [List.take_succ_eq_append_getElem (by rw [← HN.out]; exact hlt), List.map_append, List.reverse_append]
          have : bd.getD k 0 = bd[k]'(by rw [← HN.out]; exact hlt) := by rw [List.getD_eq_getElem?_getD, List.getElem?_eq_getElem (by rw [← HN.out]; exact hlt)]; rfl
          rw [← this, ← HY.out]; rfl
        rw [e]
        exact HC1.out.more HBC.out (Nat.le_refl _) ((Below.refl _ _).alloc (Nat.le_refl _) _) GRN.out (by rw [HLP.out]; exact RN.out)
      case measure => simp [intOf]; omega
    · obtain rfl : k = n := by omega
      have et : bd.take k = bd := List.take_of_length_le (by rw [← HN.out]; omega)
      rw [et] at hC
      have D0 : Hid (Df (S.gr tr) S.rep (m + 1) (bd.map S.rep) ((bd.map S.rep).reverse) S.mr) := Df.begin (S.gr tr) S.rep RIN.out RID.out (m + 1) bd HBD.out S.mr fun x hx => by have := HMR.out x hx; omega
      have hmC : mC (S.gr tr) S.dom S.mr (m + 1) ((bd.map S.rep).reverse) ≤ M := by
        have := HM.out.1
        unfold mC at this ⊢
        rw [List.length_reverse, List.length_map]
        exact this
      have HMC := Lib.hid hmC
      obtain ⟨P0, hP0⟩ : ∃ P0, P0 = (bd.map S.rep).reverse := ⟨_, rfl⟩
      rw [← hP0] at hC D0 HMC
      clear hP0 et hlt hmC
      go_wp2
      go_loopg [7] M (fun gk p wx => ∃ P mk, Hid (CR B w.heap.size sb S nx mv (m + 2) w wx p P mk) ∧ Hid (Df (S.gr tr) S.rep (m + 1) (bd.map S.rep) P mk) ∧ Hid (mC (S.gr tr) S.dom mk (m + 1) P ≤ gk ∧ gk ≤ M))
      case atStart => exact ⟨P0, S.mr, hC, D0, ⟨HMC.out, Nat.le_refl _⟩⟩
      case round =>
        clear hC D0 HMC BC HROW
        obtain ⟨P, mk, hC, hD, hK⟩ := hrel
        cases P with
        | nil =>
          obtain ⟨qp, cp, rfl⟩ := row_form hC.out.path
          have E : Hid (CirP B sb S tr bd nx mv m w (.returned (.bool false)) wr) := .no rfl mk (fun x hx => by have := hD.out.lo x hx; omega) hC.out.tw hC.out.st (fun y hy => by
            rcases hD.out.start (S.rep y) (List.mem_map.2 ⟨y, hy, rfl⟩) with e | e
            · exact hD.out.blk _ (RIN.out y (HBD.out y hy)) e
            · simp at e) hC.out.fr
          simp only [List.length_nil]
          clear hC hD hK
          go_wp2
          go_ret
          exact E.out
        | cons x R =>
          obtain ⟨g, cp, rfl, hgl, hCg, hnc, hcm, kx, hcut⟩ := hC.out.last
          have hxd := (hD.out.pin x (by simp)).1
          have hxr := (hD.out.pin x (by simp)).2
          obtain ⟨r, hr⟩ : ∃ r, r = R.length := ⟨_, rfl⟩
          rw [← hr] at hnc kx hcut hC ⊢
          have hr9 : r ≤ 1000000000 := by
            have h1 := hK.out
            have h2 := HM.out.2
            unfold mC at h1
            simp only [List.length_cons] at h1
            omega
          have hcp9 : cp ≤ 9223372036854775807 := by unfold maxLen at hcm; omega
          have c7 := (node_cells hC.out.tw hxd).2.2.2.2.2.1
          have f7 := (node_cells hC.out.tw hxd).2.2.2.2.2.2 7
          change wr.cell? ⟨x, 7, none⟩ = some (.int .i64 (mk x)) at c7
          obtain ⟨mx, hmx⟩ : ∃ mx, mx = mk x := ⟨_, rfl⟩
          rw [← hmx] at c7
          have hmx2 : mx ≤ m + 2 := by have := hD.out.lo x hxd; omega
          have HR := Lib.hid hr
          have HMX := Lib.hid hmx
          have HXD := Lib.hid hxd
          have HXR := Lib.hid hxr
          have HCUT := Lib.hid hcut
          clear hr hmx hxd hxr hcut hgl hCg hcm
          by_cases hge : m + 1 ≤ mx
          · have E : Hid (∃ P mk', CR B w.heap.size sb S nx mv (m + 2) w (wr.setCell ⟨x, 7, none⟩ (.int .i64 (m + 2))) (.slice (some ⟨g, 0, none⟩) r cp) P mk' ∧ Df (S.gr tr) S.rep (m + 1) (bd.map S.rep) P mk' ∧ (mC (S.gr tr) S.dom mk' (m + 1) P < gk ∧ mC (S.gr tr) S.dom mk' (m + 1) P ≤ M)) := Lib.hid (by
              refine ⟨R, setM mk x (m + 1 + 1), ?_, hD.out.pop GN.out RIN.out (by rw [← HMX.out]; exact hge), ?_⟩
              · have := HCUT.out _ _ (hC.out.mark HBC.out HXD.out (m + 2))
                rw [show m + 1 + 1 = m + 2 by omega]
                exact this
              · have := mC_pop (S.gr tr) S.dom mk (m + 1) R x (by rw [← HMX.out]; exact hge)
                have := hK.out
                omega)
            clear hC hD HCUT
            go_wp2
            obtain ⟨P2, mk2, e1, e2, e3, e4⟩ := E.out
            go_roundg (mC (S.gr tr) S.dom mk2 (m + 1) P2)
            case measure => exact e3
            case rel => exact ⟨P2, mk2, e1, e2, ⟨Nat.le_refl _, e4⟩⟩
          · have hlx : mk x < m + 1 := by rw [← HMX.out]; omega
            have C1 : Hid (CR B w.heap.size sb S nx mv (m + 2) w (wr.setCell ⟨x, 7, none⟩ (.int .i64 (m + 1))) (.slice (some ⟨g, 0, none⟩) (r + 1) cp) (x :: R) (setM mk x (m + 1))) := hC.out.mark HBC.out HXD.out (m + 1)
            obtain ⟨qk, ck, d4, hk, hq, hnck, hcmk, _⟩ := C1.out.tw.root (x := x) HXD.out HXR.out
            change (wr.setCell ⟨x, 7, none⟩ (.int .i64 (m + 1))).cell? ⟨x, 4, none⟩ = some (.slice qk (S.kids x).length ck) at d4
            change KidsAt B _ (.slice qk (S.kids x).length ck) (S.kids x) at hk
            change 0 < (S.kids x).length → _ at hq
            change (S.kids x).length ≤ ck at hnck
            obtain ⟨nk, hnk⟩ : ∃ nk, nk = (S.kids x).length := ⟨_, rfl⟩
            rw [← hnk] at d4 hk hq hnck
            have HNK := Lib.hid hnk
            have HKA := Lib.hid hk
            have HQ := Lib.hid hq
            have hPM : r + 1 + nk ≤ 1000000000 := by
              have h1 := mC_push (S.gr tr) S.dom mk (m + 1) R x HXD.out hlx (((S.kids x).map S.rep).reverse) (by rw [List.length_reverse, List.length_map]; rfl)
              have h2 := hK.out
              have h3 := HM.out.2
              unfold mC at h1
              rw [List.length_append, List.length_cons, List.length_reverse, List.length_map, ← hnk, ← HR.out] at h1
              unfold mC at h2
              rw [List.length_cons, ← HR.out] at h2
              omega
            have HLX := Lib.hid hlx
            have HPM := Lib.hid hPM
            have hnk9 : nk ≤ 9223372036854775807 := by omega
            clear hnk hk hq hlx hC HCUT hnck hcmk
            go_wp2
            obtain ⟨wk, hwk⟩ : ∃ wk, wk = wr.setCell ⟨x, 7, none⟩ (.int .i64 (m + 1)) := ⟨_, rfl⟩
            rw [← hwk] at C1 HKA ⊢
            clear hwk d4 c7 f7 kx
            go_loopw [7, 72] (fun p i wq => ∃ j : Nat, j ≤ nk ∧ i = .int .i64 j ∧ Hid (CR B w.heap.size sb S nx mv (m + 2) w wq p ((((S.kids x).take j).map S.rep).reverse ++ x :: R) (setM mk x (m + 1))) ∧ Hid (∀ k ∈ (S.kids x).take j, setM mk x (m + 1) (S.rep k) ≠ m + 1) ∧ Hid (Frm S.D B wk wq)) (fun _ i _ => nk - (intOf i).toNat)
            case atStart => exact ⟨0, Nat.zero_le _, rfl, C1, Lib.hid (by simp), Frm.refl _ _ _⟩
            case round =>
              rename_i wout
              obtain ⟨j, hj, rfl, hC, hne, hF⟩ := hrel
              by_cases hlt : j < nk
              · obtain ⟨gx, rfl, hgx⟩ := HQ.out (by omega)
                have ky := (KidsAt.frm C1.out.tw HKA.out hF.out).cellk j (by rw [← HNK.out]; exact hlt)
                obtain ⟨y, hy⟩ : ∃ y, y = (S.kids x).getD j 0 := ⟨_, rfl⟩
                rw [← hy] at ky
                have hym : y ∈ S.kids x := by
                  rw [hy, List.getD_eq_getElem?_getD, List.getElem?_eq_getElem (by rw [← HNK.out]; exact hlt)]
                  exact List.getElem_mem _
                have HYM := Lib.hid hym
                have HYD := Lib.hid (GN.out.kin x HXD.out y hym)
                have HY := Lib.hid hy
                clear hy hym
                go_wp2_with fail
                refine Calls.mono (ROOT.out (setM mk x (m + 1)) y _ HYD.out hC.out.tw) ?_
                rintro e w1 hR
                have hC1 := hC.out.root HBC.out hR
                have hF1 : Frm S.D B wk w1 := hF.out.trans (hR.2.2.mono hC.out.tw.fit fun _ _ hd => hd)
                obtain ⟨rfl, _, _⟩ := hR
                unfold pv
                have m7 := (node_cells hC1.tw (x := S.rep y) (RIN.out y HYD.out)).2.2.2.2.2.1
                change w1.cell? ⟨S.rep y, 7, none⟩ = some (.int .i64 (setM mk x (m + 1) (S.rep y))) at m7
                have HC1 := Lib.hid hC1
                have HF1 := Lib.hid hF1
                obtain ⟨my, hmy⟩ : ∃ my, my = setM mk x (m + 1) (S.rep y) := ⟨_, rfl⟩
                rw [← hmy] at m7
                have HMY := Lib.hid hmy
                clear hC1 hF1 hC hF ky hmy
                by_cases heq : my = m + 1
                · have t1 : (my == m + 1) = true := by simpa using heq
                  obtain ⟨a, ha⟩ := hD.out.circle GN.out RIN.out (k := y) HYM.out (by rw [← HMY.out]; exact heq)
                  have E : Hid (CirP B sb S tr bd nx mv m w (.returned (.bool true)) w1) := .yes rfl a ha HC1.out.fr
                  clear heq ha hD
                  go_wp2
                  go_ret
                  exact E.out
                · have t1 : (my == m + 1) = false := by simpa using heq
                  have HNE := Lib.hid heq
                  obtain ⟨L, hL⟩ : ∃ L, L = (((S.kids x).take j).map S.rep).reverse ++ x :: R := ⟨_, rfl⟩
                  rw [← hL] at HC1
                  obtain ⟨qp, cp2, rfl⟩ := row_form HC1.out.path
                  have hlL : L.length = j + (r + 1) := by rw [hL, List.length_append, List.length_reverse, List.length_map, List.length_take, List.length_cons, ← HNK.out, ← HR.out]; omega
                  obtain ⟨nl, hnl⟩ : ∃ nl, nl = L.length := ⟨_, rfl⟩
                  rw [← hnl] at HC1 ⊢
                  have hnl9 : nl + 1 ≤ 1000000000 := by have := HPM.out; omega
                  have HNL := Lib.hid hnl
                  have HLL := Lib.hid hL
                  have ROW := Lib.hid (show (w1.alloc (.cells #[.pointer (some ⟨S.rep y, 0, none⟩)] 93)).ownsRow w.heap.size 93 1 (.slice qp nl cp2) nl (L.reverse.map pv) by
                    have := HC1.out.path.alloc (.cells #[.pointer (some ⟨S.rep y, 0, none⟩)] 93)
                    rw [← HNL.out] at this
                    exact this)
                  have HMX2 := Lib.hid (show nl + 1 ≤ maxLen ∧ (nl + 1) * 8 ≤ 140737488355328 ∧ w.heap.size ≤ (w1.alloc (.cells #[.pointer (some ⟨S.rep y, 0, none⟩)] 93)).heap.size from ⟨by unfold maxLen; omega, by omega, by have := HC1.out.le; simp; omega⟩)
                  clear hnl hL heq hlL hnl9
                  go_wp2_with (at_builtin; refine wpList_append_any _ rfl _ _ 126 rfl w.heap.size 93 j0 (.pointer none) 1 8 Tryz.underlying126 HJ.out.1 HJ.out.2.1 HJ.out.2.2.1 HJ.out.2.2.2 rfl (by decide) (.slice qp nl cp2) nl (L.reverse.map pv) rfl ROW.out (some ⟨w1.heap.size, 0, none⟩) 1 1 [.pointer (some ⟨S.rep y, 0, none⟩)] rfl rfl (fun _ => ⟨_, rfl, cell_one_new _ _ _⟩) (by intro u hu; simp at hu; rw [hu]; rfl) HMX2.out.1 HMX2.out.2.1 HMX2.out.2.2 ?_; intro p' cap' w7 hown hgrow hblk; have RN := Lib.hid hown; have GRN := Lib.hid hgrow; clear hown hgrow hblk)
                  go_roundw
                  case rel =>
                    have e0 : (S.kids x).take (j + 1) = (S.kids x).take j ++ [y] := by
                      rw [List.take_succ_eq_append_getElem (by rw [← HNK.out]; exact hlt)]
                      have : (S.kids x).getD j 0 = (S.kids x)[j]'(by rw [← HNK.out]; exact hlt) := by rw [List.getD_eq_getElem?_getD, List.getElem?_eq_getElem (by rw [← HNK.out]; exact hlt)]; rfl
                      rw [← this, ← HY.out]
                    have e : (((S.kids x).take (j + 1)).map S.rep).reverse ++ x :: R = S.rep y :: L := by
                      rw [e0, List.map_append, List.reverse_append, HLL.out]; rfl
                    refine ⟨j + 1, by omega, by go_num, ?_, Lib.hid ?_, HF1.out.trans (Frm.of_below (((Below.refl w1.heap.size w1).alloc (Nat.le_refl _) _).mono HC1.out.tw.fit |>.grown GRN.out ?_ ?_))⟩
                    · rw [e]
                      exact HC1.out.more HBC.out (Nat.le_refl _) ((Below.refl _ _).alloc (Nat.le_refl _) _) GRN.out (by rw [← HNL.out]; exact RN.out)
                    · intro k hk
                      rw [e0] at hk
                      rcases List.mem_append.1 hk with hk | hk
                      · exact hne.out k hk
                      · rw [List.mem_singleton] at hk
                        rw [hk, ← HMY.out]; exact HNE.out
                    · have := HC1.out.tw.fit; simp; omega
                    · intro g hg
                      have := (World.ownsRow.there HC1.out.path hg).1
                      have := HBC.out
                      omega
                  case measure => simp [intOf]; omega
              · obtain rfl : j = nk := by omega
                have et : (S.kids x).take j = S.kids x := List.take_of_length_le (by rw [← HNK.out]; omega)
                rw [et] at hC hne
                have E : Hid (Df (S.gr tr) S.rep (m + 1) (bd.map S.rep) (((S.kids x).map S.rep).reverse ++ x :: R) (setM mk x (m + 1)) ∧ (mC (S.gr tr) S.dom (setM mk x (m + 1)) (m + 1) (((S.kids x).map S.rep).reverse ++ x :: R) < gk ∧ mC (S.gr tr) S.dom (setM mk x (m + 1)) (m + 1) (((S.kids x).map S.rep).reverse ++ x :: R) ≤ M)) := Lib.hid (by
                  refine ⟨hD.out.push GN.out RIN.out RID.out HLX.out hne.out, ?_⟩
                  have := mC_push (S.gr tr) S.dom mk (m + 1) R x HXD.out HLX.out (((S.kids x).map S.rep).reverse) (by rw [List.length_reverse, List.length_map]; rfl)
                  have := hK.out
                  omega)
                clear hlt hne hF et hD
                go_wp2
                go_roundg (mC (S.gr tr) S.dom (setM mk x (m + 1)) (m + 1) (((S.kids x).map S.rep).reverse ++ x :: R))
                case measure => exact E.out.2.1
                case rel => exact ⟨_, _, hC, E.out.1, ⟨Nat.le_refl _, E.out.2.2⟩⟩
end Go.Proofs.YtncifeeinogcnaaGreatDoor
/- Plain arithmetic for layer 1 (word): 'wr n', the number of the language that differs from n by a multiple of two to the 63, and what wrapping of 64 bits does to it. No walk here. -/
namespace Go.Proofs.YtncifeeinogcnaaGreatDoor.Lx
open Go.RowKit

def wr (n : Int) : Int := (n + 4611686018427387904) % 9223372036854775808 - 4611686018427387904

def u64w (n : Int) : Int := n % 18446744073709551616

theorem wrap64_eq (n : Int) : wrap64 n = (n + 9223372036854775808) % 18446744073709551616 - 9223372036854775808 := by
  unfold wrap64; omega
theorem wr_shift (n : Int) : wrap64 (n * 2) / 2 = wr n := by rw [wrap64_eq]; unfold wr; omega
theorem wr_u64w (n : Int) : wr (u64w n) = wr n := by unfold u64w wr; omega
theorem u64w_eq (n : Int) : IntKind.u64.wrap n = u64w n := by unfold u64w; simp [IntKind.wrap, IntKind.bits, IntKind.signed]
end Go.Proofs.YtncifeeinogcnaaGreatDoor.Lx
/- Plain lists of digits: the decimal digits of a number from 0 on, as bytes, and the number that a list of digits is. No walk here. -/
namespace Go.Proofs.YtncifeeinogcnaaGreatDoor.Lx

/-- The decimal digits of n, at most f of them, each as its byte. -/
def dg : Nat → Int → List Int
  | 0, _ => []
  | f + 1, n => if n < 10 then [48 + n] else dg f (n / 10) ++ [48 + n % 10]

def val (l : List Int) : Int := l.foldl (fun m d => 10 * m + (d - 48)) 0

/-- The text of a number of the language, as the list of its bytes. -/
def shl (v : Int) : List Int := if v < 0 then 126 :: dg 19 (-v) else dg 19 v
def shw (v : Int) : ByteArray := strOfNums (shl v)
end Go.Proofs.YtncifeeinogcnaaGreatDoor.Lx
/- The mathematics of tokens: what the bytes of a text are as tokens, and the text of tokens; nothing of the program is named here. -/
namespace Go.Proofs.LexMath

abbrev Bs := List UInt8
def iv (c : UInt8) : Int := c.toNat
def low (r : Int) : Bool := decide (97 ≤ r) && decide (r ≤ 122)
def upp (r : Int) : Bool := decide (65 ≤ r) && decide (r ≤ 90)
def ltr (r : Int) : Bool := low r || upp r
def dgt (r : Int) : Bool := decide (48 ≤ r) && decide (r ≤ 57)
def tl (r : Int) : Bool := ltr r || dgt r || (r == 95 || r == 39)
def opr (r : Int) : Bool := r == 33 || r == 36 || r == 37 || r == 38 || r == 42 || r == 43 || r == 45 || r == 47 || r == 58 || r == 60 || r == 61 || r == 62 || r == 63 || r == 64 || r == 94 || r == 124
def pln (r : Int) : Bool := decide (32 ≤ r) && decide (r ≤ 126)

/-- How many bytes at the head are of a class. -/
def run (p : Int → Bool) (l : Bs) : Nat := (l.takeWhile fun c => p (iv c)).length
theorem run_nil (p : Int → Bool) : run p [] = 0 := rfl
theorem run_yes (p : Int → Bool) (c : UInt8) (l : Bs) (h : p (iv c) = true) : run p (c :: l) = run p l + 1 := by simp [run, h]
theorem run_no (p : Int → Bool) (c : UInt8) (l : Bs) (h : p (iv c) = false) : run p (c :: l) = 0 := by simp [run, h]
def keys : List Bs := [[108, 101, 116], [114, 101, 99], [105, 110], [102, 117, 110], [105, 102], [116, 104, 101, 110], [101, 108, 115, 101], [109, 97, 116, 99, 104], [119, 105, 116, 104], [101, 110, 100], [114, 97, 105, 115, 101], [116, 114, 121], [111, 112, 101, 110], [116, 121, 112, 101], [111, 102], [105, 110, 102, 105, 120, 108], [105, 110, 102, 105, 120, 114], [105, 110, 102, 105, 120], [45, 62], [61], [124], [40], [41], [95], [59, 59]]
def key (t : Bs) : Bool := keys.contains t

/-- The byte for which the head of a text stands in a string, and how many bytes that is. -/
def hexv (r : Int) : Int := if 48 ≤ r ∧ r ≤ 57 then r - 48 else if 97 ≤ r ∧ r ≤ 102 then r - 87 else -1
def chr : Bs → Option (UInt8 × Nat)
  | [] => none
  | c :: r =>
    if iv c = 92 then
      match r with
      | [] => none
      | d :: r' =>
        if iv d = 34 ∨ iv d = 92 then some (d, 2)
        else if iv d = 110 then some (10, 2)
        else if iv d = 120 then
          match r' with
          | x :: y :: _ => if 0 ≤ hexv (iv x) ∧ 0 ≤ hexv (iv y) then some (UInt8.ofNat (16 * hexv (iv x) + hexv (iv y)).toNat, 4) else none
          | _ => none
        else none
    else if pln (iv c) then some (c, 1) else none
/-- A string that ends behind its closing sign: its bytes, and how many it takes. -/
def strF : Nat → Bs → Option (Bs × Nat)
  | 0, _ => none
  | _ + 1, [] => none
  | f + 1, c :: r =>
    if iv c = 34 then some ([], 1)
    else match chr (c :: r) with
      | none => none
      | some (b, n) => (strF f ((c :: r).drop n)).map fun x => (b :: x.1, n + x.2)
def str (l : Bs) : Option (Bs × Nat) := strF l.length l
def qbyte (c : UInt8) : Bs :=
  if iv c = 34 ∨ iv c = 92 then [92, c] else if iv c = 10 then [92, 110] else if pln (iv c) then [c]
  else [92, 120, hexd (iv c / 16), hexd (iv c % 16)]
where hexd (n : Int) : UInt8 := UInt8.ofNat (if n < 10 then 48 + n else 87 + n).toNat
def qbody (s : Bs) : Bs := s.flatMap qbyte
def quote (s : Bs) : Bs := 34 :: (qbody s ++ [34])
end Go.Proofs.LexMath
/- The mathematics of tokens, second part: the numbers, one token, all tokens, and what they are when shown, joined and read again; nothing of the program is named here. -/
namespace Go.Proofs.LexMath
open Go.Proofs.YtncifeeinogcnaaGreatDoor.Lx Go.RowKit

def bs (l : Bs) : ByteArray := ⟨l.toArray⟩
theorem bs_list (l : Bs) : (bs l).data.toList = l := by simp [bs]
def shwL (v : Int) : Bs := (shw v).data.toList
def rd : Bs → Int
  | [] => 0
  | c :: r => if iv c = 126 then -val (r.map iv) else val ((c :: r).map iv)
def num? (l : Bs) : Option Int := if -4611686018427387904 ≤ rd l ∧ rd l ≤ 4611686018427387903 ∧ shwL (rd l) = l then some (rd l) else none
structure Tok where
  kind : Int
  text : ByteArray
  num : Int
  at_ : Int
  deriving DecidableEq, Inhabited
inductive One where
  | tok (k : Int) (t : Bs) (v : Int) (n : Nat)
  | err (e : Int)
def wrd (k : Int) (t : Bs) : One := .tok (if key t then 6 else k) t 0 t.length
def one : Bs → One
  | [] => .err 30
  | c :: r =>
    if ltr (iv c) = true then wrd (if low (iv c) then 1 else 2) (c :: r.take (run tl r))
    else if iv c = 126 ∨ dgt (iv c) = true then
      match num? (c :: r.take (run dgt r)) with
      | some v => .tok 3 [] v (run dgt r + 1)
      | none => .err 31
    else if iv c = 34 then
      match str r with
      | some (t, m) => if t.length ≤ 200 then .tok 4 t 0 (m + 1) else .err 32
      | none => .err 32
    else if opr (iv c) = true then wrd 5 (c :: r.take (run opr r))
    else if iv c = 40 ∨ iv c = 41 ∨ iv c = 95 then .tok 6 [c] 0 1
    else if iv c = 59 ∧ r.head? = some 59 then .tok 6 [59, 59] 0 2
    else .err 30
def skp : Bool → Bs → Nat
  | _, [] => 0
  | true, c :: r => if iv c = 10 then skp false r + 1 else skp true r + 1
  | false, c :: r => if iv c = 32 ∨ iv c = 10 then skp false r + 1 else if iv c = 35 then skp true r + 1 else 0
inductive Res where
  | ok (l : List Tok)
  | err (e : Int) (p : Nat)
def Res.pre (acc : List Tok) : Res → Res
  | .ok l => .ok (acc ++ l)
  | .err e p => .err e p
def lexF : Nat → Nat → Nat → Bs → Res
  | 0, _, _, _ => .ok []
  | f + 1, p, n, l =>
    match l.drop (skp false l) with
    | [] => .ok []
    | c :: r =>
      match one (c :: r) with
      | .err e => .err e (p + skp false l)
      | .tok kd t v m =>
        if n = 4000 then .err 33 (p + skp false l)
        else (lexF f (p + skp false l + m) (n + 1) ((c :: r).drop m)).pre [⟨kd, bs t, v, ((p + skp false l : Nat) : Int)⟩]
def lexAt (p n : Nat) (l : Bs) : Res := lexF (l.length + 1) p n l
def lex (l : Bs) : Res := lexAt 0 0 l

end Go.Proofs.LexMath
/- The mathematics of tokens, fourth part: which tokens may be, their words, and that what is shown is read again. -/
namespace Go.Proofs.LexMath
open Go.Proofs.YtncifeeinogcnaaGreatDoor.Lx Go.RowKit

def isw (first rest : Int → Bool) : Bs → Bool
  | [] => false
  | c :: r => first (iv c) && r.all fun d => rest (iv d)
def Tok.bytes (t : Tok) : Bs := t.text.data.toList
def rightB (t : Tok) : Bool :=
  decide (0 ≤ t.at_) &&
  (if t.kind = 1 then decide (t.num = 0) && isw low tl t.bytes && !key t.bytes
   else if t.kind = 2 then decide (t.num = 0) && isw upp tl t.bytes
   else if t.kind = 3 then t.bytes.isEmpty && decide (wr t.num = t.num)
   else if t.kind = 4 then decide (t.num = 0) && decide (t.bytes.length ≤ 200)
   else if t.kind = 5 then decide (t.num = 0) && isw opr opr t.bytes && !key t.bytes
   else if t.kind = 6 then decide (t.num = 0) && key t.bytes
   else false)
def wordL (t : Tok) : Bs := if t.kind = 3 then shwL t.num else if t.kind = 4 then quote t.bytes else t.bytes
def rest (ts : List Tok) : Bs := ts.flatMap fun u => 32 :: wordL u
theorem isw_cons {p q : Int → Bool} {l : Bs} (h : isw p q l = true) : ∃ c r, l = c :: r ∧ p (iv c) = true ∧ ∀ d ∈ r, q (iv d) = true := by
  cases l with
  | nil => cases h
  | cons c r =>
    simp only [isw, Bool.and_eq_true, List.all_eq_true] at h
    exact ⟨c, r, rfl, h.1, h.2⟩
theorem key_heads (t : Bs) (h : key t = true) : ∃ c r, t = c :: r ∧ ((low (iv c) = true ∧ ∀ d ∈ r, low (iv d) = true) ∨ (opr (iv c) = true ∧ ∀ d ∈ r, opr (iv d) = true) ∨ (t = [40] ∨ t = [41] ∨ t = [95] ∨ t = [59, 59])) := by
  unfold key keys at h
  simp only [List.contains_eq_mem, List.mem_cons, List.not_mem_nil, or_false, decide_eq_true_eq] at h
  rcases h with rfl | rfl | rfl | rfl | rfl | rfl | rfl | rfl | rfl | rfl | rfl | rfl | rfl | rfl | rfl | rfl | rfl | rfl | rfl | rfl | rfl | rfl | rfl | rfl | rfl
  all_goals refine ⟨_, _, rfl, ?_⟩
  all_goals first
    | exact .inl ⟨by decide, by decide⟩
    | exact .inr (.inl ⟨by decide, by decide⟩)
    | exact .inr (.inr (by decide))
theorem low_tl {r : Int} (h : low r = true) : tl r = true := by simp [tl, ltr, h]
end Go.Proofs.LexMath
