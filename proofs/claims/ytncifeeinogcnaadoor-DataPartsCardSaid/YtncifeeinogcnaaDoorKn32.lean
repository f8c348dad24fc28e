/- Texts of this seat, one behind the other: TxD, TxE, TxF. -/
import Derived.Test.YtncifeeinogcnaaDoorKn31
import Derived.Laws.BytesArg
/- Show: the contract of write. -/
set_option maxRecDepth 100000
namespace Go.Proofs.YtncifeeinogcnaaDoor
open Go.Shelf Go.RowKit Go.Lib Go.Sort Go.Proofs.TreeMath

/-- The library's table of powers, in whatever world comes after. -/
def TabW (W : World) : Prop := ∀ w', Below W.heap.size W w' → Lib.TabIs Tryd.prog w' "internal/strconv.uint64pow10" .u64 Lib.pow10Tab
/-- How things stand between two kids. -/
structure WL (W : World) (b : Nat) (tv : Value) (ns post : List Nd) (txt : List UInt8) (K next : Nat) (j pos : Nat) (g : F) (wr : World) : Prop where
  at_ : ∃ pre' : List Nd, pos = pre'.length ∧ ns = pre' ++ (g.flat ++ post)
  cnt : j + g.cnt = K
  good : AllGoodW W b tv ns g
  ok : okT g
  txt : ∃ l' : List UInt8, TS W b l' wr ∧ l' ++ (shF g).flatMap (fun a => 32 :: brk (decide (0 < a.1.kids)) a.2) = txt ∧ l'.length + 100000020 * g.sz + 10 ≤ 140737488355328
  next : pos + g.sz = next
set_option maxHeartbeats 4000000 in
theorem write_good (W : World) (b : Nat) (tv : Value) (ns : List Nd) (n : Nd) (k : F) (hns : NodesAt W tv ns) (hn4 : ns.length ≤ 4000) (hk : AllGoodW W b tv ns k) (ht : okT (.cons n k .nil)) (htab : TabW W) : GoodW W b tv ns n k := by
  intro pre post l w he hl hT
  have hlen : pre.length < ns.length := by rw [he]; simp
  have hnode : ns.getD pre.length default = n := by rw [he]; simp [List.getD_eq_getElem?_getD]
  have hnx : pre.length + 1 + k.sz ≤ 4000 := by
    have : ns.length = pre.length + (1 + (k.flat.length + post.length)) := by rw [he]; simp; omega
    rw [F.flat_length] at this; omega
  have hns' := hns
  obtain ⟨_, q, c, rfl, _, _, g4⟩ := hns'
  obtain ⟨bb, off, rfl, hb, hc⟩ := g4 (by omega)
  obtain ⟨c0, c1, c2, c3⟩ := CellsIn.node (hc.kept (hT.bel.block bb hb)) pre.length hlen
  rw [hnode] at c0 c1 c2 c3
  obtain ⟨t1, t2, t3, t4, t5, t6, _⟩ := ht
  have hbw : b < w.heap.size := bld_lt hT.bld
  have HT := Lib.hid hT
  have HL := Lib.hid hl
  have HNS := Lib.hid hns
  have H4 := Lib.hid hn4
  have HE := Lib.hid he
  have HK := Lib.hid hk
  have HTAB := Lib.hid htab
  have T6 := Lib.hid t6
  obtain ⟨nk, nt, nn, nc⟩ := n
  simp only at c0 c1 c2 c3 t1 t2 t3 t4 t5
  have BA : Hid (Below w.heap.size w (w.alloc (.cells #[.int .i64 nk, .string nt, .int .i64 nn, .int .i64 nc] 42))) := Lib.hid ((Below.refl _ _).alloc (Nat.le_refl _) _)
  have TA : Hid (TS W b l (w.alloc (.cells #[.int .i64 nk, .string nt, .int .i64 nn, .int .i64 nc] 42))) := Lib.hid (hT.below BA.out)
  have BX : Hid ((w.alloc (.cells #[.int .i64 nk, .string nt, .int .i64 nn, .int .i64 nc] 42)).heap[w.heap.size]? = some (.cells #[.int .i64 nk, .string nt, .int .i64 nn, .int .i64 nc] 42 (0, 0))) := Lib.hid (heap_alloc_new w _)
  obtain ⟨I, hI⟩ : ∃ I, I = pre.length := ⟨_, rfl⟩
  obtain ⟨M, hM⟩ : ∃ M, M = ns.length := ⟨_, rfl⟩
  obtain ⟨NX, hNX⟩ : ∃ NX, NX = pre.length + 1 + k.sz := ⟨_, rfl⟩
  rw [← hNX] at hnx ⊢
  rw [← hI] at c0 c1 c2 c3 hlen hNX ⊢
  rw [← hM] at hlen hn4 ⊢
  have HI := Lib.hid hI
  have HM := Lib.hid hM
  have HNX := Lib.hid hNX
  clear hI hM hNX hT he hl hk hc hb g4 hnode htab t6 hns
  rcases t1 with ⟨hk31, hn0, hn1⟩ | hk32
  · obtain rfl := t5 hk31
    subst hk31
    have hNX1 : NX = I + 1 := by rw [HNX.out]; rfl
    subst hNX1
    have E : Hid (∀ w', TS W b (l ++ 39 :: Lib.itoa nn) w' → WPost W b (I + 1) (l ++ shN ⟨31, nt, nn, nc⟩ (shF .nil)) (.returned (.int .i64 ((I : Int) + 1))) w') := Lib.hid fun _ h => ⟨by rw [Int.natCast_add]; rfl, h⟩
    generalize hZ : WPost W b (I + 1) (l ++ shN ⟨31, nt, nn, nc⟩ (shF .nil)) = Z at *
    have LN := Lib.hid (itoa_len hn0 hn1)
    have FM := Lib.hid (fun w' hw' => format_any nn (by omega) (by omega) w' (HTAB.out w' hw'))
    clear hZ t2 t3 t4 t5 hn0 hn1 BX HK
    go_enter Tryd.func40, Tryd.ntmps40
    obtain ⟨S, hS⟩ : ∃ S : ByteArray, S = ⟨(Lib.itoa nn).toArray⟩ := ⟨_, rfl⟩
    have hSz : S.size ≤ 7 := by rw [hS]; show (Lib.itoa nn).toArray.size ≤ 7; simpa using LN.out
    have hSc : ¬ (9223372036854775807 : Int) < 1 + (S.size : Int) := by omega
    rw [← hS] at FM
    have HS := Lib.hid hS
    clear hS
    go_wp2_with fail
    refine (FM.out _ TA.out.bel).mono ?_
    rintro e w1 ⟨rfl, kk0, os, rfl⟩
    have H1 : Hid (TS W b l (Sort.grow ((w.alloc (.cells #[.int .i64 31, .string nt, .int .i64 nn, .int .i64 nc] 42)).drewN kk0) os)) := Lib.hid (TA.out.below (below_grown _ _ _))
    generalize (Sort.grow ((w.alloc (.cells #[.int .i64 31, .string nt, .int .i64 nn, .int .i64 nc] 42)).drewN kk0) os) = w1 at *
    have W1 := Lib.hid (wr_any W b l (⟨#[39]⟩ ++ S) w1 H1.out (by have := HL.out; rw [ByteArray.size_append]; show _ + (1 + S.size) ≤ _; omega))
    rw [show l ++ ((⟨#[39]⟩ : ByteArray) ++ S).data.toList = l ++ 39 :: Lib.itoa nn by rw [HS.out]; simp] at W1
    clear FM H1
    go_wp2_with fail
    refine W1.out.mono ?_
    rintro e w2 ⟨rfl, h2, _⟩
    have H2 := Lib.hid (E.out _ h2)
    clear h2 W1
    go_wp2
    first | go_ret | skip
    exact H2.out
  · subst hk32
    by_cases ha : nt = sArrow
    · have hcnt := t3 ha rfl
      subst ha
      clear t5 BX
      obtain ⟨a, ka, k2, rfl⟩ : ∃ a ka k2, k = .cons a ka k2 := by
        cases k with
        | nil => simp [F.cnt] at hcnt
        | cons a ka k2 => exact ⟨a, ka, k2, rfl⟩
      obtain ⟨c, kc, k3, rfl⟩ : ∃ c kc k3, k2 = .cons c kc k3 := by
        cases k2 with
        | nil => simp [F.cnt] at hcnt
        | cons a ka k2 => exact ⟨a, ka, k2, rfl⟩
      obtain rfl : k3 = .nil := by
        cases k3 with
        | nil => rfl
        | cons _ _ _ => simp [F.cnt] at hcnt
      have oa : okT (.cons a ka .nil) := by obtain ⟨a1, a2, a3, a4, a5, a6, _⟩ := T6.out; exact ⟨a1, a2, a3, a4, a5, a6, trivial⟩
      have oc : okT (.cons c kc .nil) := by obtain ⟨_, _, _, _, _, _, h⟩ := T6.out; exact h
      have P1 := Lib.hid (fun w' (hw : TS W b l w') => part_good W b _ ns a ka 59 (decide (a.text = sArrow)) (Lib.hid fun vs w => enters_of Tryd.func59 (by kernel_rfl) rfl vs w) HNS.out H4.out (Lib.hid HK.out.1) oa (Lib.hid fun w => enc1_any a w) (pre ++ [⟨32, sArrow, nn, nc⟩]) (c :: (kc.flat ++ post)) l w' (by rw [HE.out]; simp [F.flat]) (by
        have := HL.out; simp only [F.sz] at this; omega) hw)
      have LA := Lib.hid (shN_one a ka oa)
      have BL := Lib.hid (brk_len (decide (a.text = sArrow)) (shN a (shF ka)))
      have P2 := Lib.hid (fun (l' : List UInt8) w' (h1 : l'.length + 100000020 * (1 + kc.sz) ≤ 140737488355328) (hw : TS W b l' w') => HK.out.2.1 (pre ++ (⟨32, sArrow, nn, nc⟩ :: a :: ka.flat)) post l' w' (by rw [HE.out]; simp [F.flat]) h1 hw)
      rw [show (pre ++ [(⟨32, sArrow, nn, nc⟩ : Nd)]).length = I + 1 by rw [HI.out]; simp] at P1
      rw [show (pre ++ ((⟨32, sArrow, nn, nc⟩ : Nd) :: a :: ka.flat)).length = I + 1 + 1 + ka.sz by rw [HI.out]; simp [F.flat_length]; omega] at P2
      obtain ⟨N2, hN2⟩ : ∃ N2, N2 = I + 1 + 1 + ka.sz := ⟨_, rfl⟩
      rw [← hN2] at P1 P2
      rw [show N2 + 1 + kc.sz = NX by rw [hN2, HNX.out]; simp only [F.sz]; omega] at P2
      rw [← HM.out] at P1 P2
      have E : Hid (∀ w', TS W b (l ++ brk (decide (a.text = sArrow)) (shN a (shF ka)) ++ [32, 45, 62, 32] ++ shN c (shF kc)) w' → WPost W b NX (l ++ shN ⟨32, sArrow, nn, nc⟩ (shF (.cons a ka (.cons c kc .nil)))) (.returned (.int .i64 (NX : Int))) w') := Lib.hid fun _ h => ⟨rfl, by
        have e : l ++ shN ⟨32, sArrow, nn, nc⟩ (shF (.cons a ka (.cons c kc .nil))) = l ++ brk (decide (a.text = sArrow)) (shN a (shF ka)) ++ [32, 45, 62, 32] ++ shN c (shF kc) := by simp [shN, shF]
        rw [e]; exact h⟩
      generalize hZ : WPost W b NX (l ++ shN ⟨32, sArrow, nn, nc⟩ (shF (.cons a ka (.cons c kc .nil)))) = Z at *
      have HSZ := Lib.hid (show l.length + 100000020 * (1 + (1 + ka.sz + (1 + kc.sz))) ≤ 140737488355328 by have := HL.out; simp only [F.sz] at this; omega)
      clear hZ t2 t3 t4 hcnt HK T6 oa oc HNX hN2 HL HE
      unfold sArrow at c1 TA BA
      have hi1 : decide ((I : Int) + 1 ≤ 9223372036854775807) = true := by simp; omega
      go_enter Tryd.func40, Tryd.ntmps40
      go_wp2_with fail
      refine (P1.out _ TA.out).mono ?_
      rintro e w1 ⟨rfl, h1⟩
      have W1 := Lib.hid (wr_any W b _ ⟨#[32, 45, 62, 32]⟩ w1 h1 (by have := HSZ.out; have := LA.out; have := BL.out; rw [List.length_append]; show _ + 4 ≤ _; omega))
      clear h1 P1
      go_wp2_with fail
      refine W1.out.mono ?_
      rintro e w2 ⟨rfl, h2, _⟩
      have P3 := Lib.hid (P2.out _ w2 (by have := HSZ.out; have := LA.out; have := BL.out; rw [List.length_append, List.length_append]; show _ + 4 + _ ≤ _; omega) h2)
      clear h2 W1 P2
      go_wp2_with fail
      refine P3.out.mono ?_
      rintro e w3 ⟨rfl, h3⟩
      have H3 := Lib.hid (E.out _ h3)
      clear h3 P3
      go_wp2
      first | go_ret | skip
      exact H3.out
    · have t7 := str_ne ha
      rw [tl_arrow] at t7
      have t8 := str_ne' ha
      rw [tl_arrow] at t8
      clear t3 t5
      have E : Hid (∀ w', TS W b (l ++ shN ⟨32, nt, nn, nc⟩ (shF k)) w' → WPost W b NX (l ++ shN ⟨32, nt, nn, nc⟩ (shF k)) (.returned (.int .i64 (NX : Int))) w') := Lib.hid fun _ h => ⟨rfl, h⟩
      obtain ⟨full, hfull⟩ : ∃ full, full = l ++ shN ⟨32, nt, nn, nc⟩ (shF k) := ⟨_, rfl⟩
      have HF : Hid (full = l ++ nt.data.toList ++ (shF k).flatMap (fun a => 32 :: brk (decide (0 < a.1.kids)) a.2)) := Lib.hid (by rw [hfull]; unfold shN; rw [if_neg (show ¬ ((32 : Int) = 31) by decide), if_neg ha, List.append_assoc])
      rw [← hfull] at E
      rw [← hfull]
      generalize hZ : WPost W b NX full = Z at *
      obtain ⟨K, hK⟩ : ∃ K, K = k.cnt := ⟨_, rfl⟩
      have hKc : nc = (K : Int) := by rw [hK]; exact t4
      subst hKc
      have HKK := Lib.hid hK
      have hK4 : K ≤ 4000 := by rw [hK]; have := F.cnt_le k; have := HNX.out; omega
      have T2 := Lib.hid t2
      have W0 := Lib.hid (wr_any W b l nt _ TA.out (by have := HL.out; omega))
      have hbe : b ≠ w.heap.size := by omega
      have HBE := Lib.hid hbe
      clear hZ t2 t4 hfull ha hK hbe
      go_enter Tryd.func40, Tryd.ntmps40
      go_wp2_with fail
      refine W0.out.mono ?_
      rintro e w1 ⟨rfl, h1, o1⟩
      have x1 := o1 w.heap.size _ BX.out (fun e => HBE.out (Option.some.inj e).symm) (by simp)
      have y3 := Lib.cell_of_heap x1 3
      simp only [List.getElem?_toArray, List.getElem?_cons_succ, List.getElem?_cons_zero] at y3
      have h5 : nt.data.toList.length ≤ 100000000 := by rw [Array.length_toList]; exact T2.out
      have S0 : Hid (WL W b (.slice (some ⟨bb, off, none⟩) M c) ns post full K NX 0 (I + 1) k w1) := Lib.hid ⟨⟨pre ++ [⟨32, nt, nn, (K : Int)⟩], by rw [HI.out]; simp, by rw [HE.out]; simp⟩, by rw [HKK.out]; omega, by rw [HM.out]; exact HK.out, T6.out, ⟨_, h1, by rw [HF.out], by have := HL.out; rw [List.length_append]; omega⟩, by rw [HNX.out]⟩
      clear h5
      clear h1 o1 x1 W0 TA BX BA HL HE HK T6 HF HNX HKK
      go_wp2
      go_loopw [2, 45] (fun s2 s45 wr => ∃ (j pos : Nat) (g : F), s45 = .int .i64 j ∧ s2 = .int .i64 pos ∧ j ≤ K ∧ pos ≤ 4000 ∧ Hid (WL W b (.slice (some ⟨bb, off, none⟩) M c) ns post full K NX j pos g wr)) (fun _ s45 _ => K - (intOf s45).toNat)
      case atStart => exact ⟨0, I + 1, k, rfl, by go_num, Nat.zero_le _, by omega, S0⟩
      case round =>
        obtain ⟨j, pos, g, rfl, rfl, hjK, hp4, HW⟩ := hrel
        clear S0 y3
        cases g with
        | nil =>
          have hjk : j = K := by have := HW.out.cnt; simpa [F.cnt] using this
          have hpn : pos = NX := by have := HW.out.next; simpa [F.sz] using this
          subst hjk hpn
          have t0 : decide ((j : Int) < (j : Int)) = false := by simp
          obtain ⟨l', g1, g2, _⟩ := HW.out.txt
          have g2' : l' = full := by simpa [shF] using g2
          subst g2'
          have H2 := Lib.hid (E.out _ g1)
          clear g1 g2 HW
          go_wp2
          first | go_ret | skip
          exact H2.out
        | cons a ka r =>
          have hlt : j < K := by have := HW.out.cnt; simp only [F.cnt] at this; omega
          have t0 : decide ((j : Int) < (K : Int)) = true := by simpa using hlt
          obtain ⟨pre', hp1, hp2⟩ := HW.out.at_
          obtain ⟨l', g1, g2, g3⟩ := HW.out.txt
          obtain ⟨o1, o2, o3, o4, o5, o6, o7⟩ := HW.out.ok
          have oa : okT (.cons a ka .nil) := ⟨o1, o2, o3, o4, o5, o6, trivial⟩
          have LA := Lib.hid (shN_one a ka oa)
          have BL := Lib.hid (brk_len (decide (0 < a.kids)) (shN a (shF ka)))
          have W1 := Lib.hid (wr_any W b l' ⟨#[32]⟩ wr g1 (by simp only [F.sz] at g3; show _ + 1 ≤ _; omega))
          have P1 := Lib.hid (fun w' (hw : TS W b (l' ++ [32]) w') => part_good W b _ ns a ka 60 (decide (0 < a.kids)) (Lib.hid fun vs w => enters_of Tryd.func60 (by kernel_rfl) rfl vs w) HNS.out H4.out (Lib.hid (by have := HW.out.good.1; rw [HM.out] at this; exact this)) oa (Lib.hid fun w => enc2_any a w) pre' (r.flat ++ post) (l' ++ [32]) w' (by rw [hp2]; simp [F.flat]) (by simp only [F.sz] at g3; simp; omega) hw)
          rw [← hp1, ← HM.out] at P1
          have hp5 : pos + 1 + ka.sz ≤ NX := by have := HW.out.next; simp only [F.sz] at this; omega
          obtain ⟨N2, hN2⟩ : ∃ N2, N2 = pos + 1 + ka.sz := ⟨_, rfl⟩
          rw [← hN2] at P1 hp5
          have NEXT : Hid (∀ w', TS W b (l' ++ [32] ++ brk (decide (0 < a.kids)) (shN a (shF ka))) w' → WL W b (.slice (some ⟨bb, off, none⟩) M c) ns post full K NX (j + 1) N2 r w') := Lib.hid fun w' hw => ⟨⟨pre' ++ (a :: ka.flat), by rw [hN2, hp1]; simp [F.flat_length]; omega, by rw [hp2]; simp [F.flat]⟩, by have := HW.out.cnt; simp only [F.cnt] at this; omega, HW.out.good.2, o7, ⟨_, hw, by rw [← g2]; simp [shF], by
            have := LA.out; have := BL.out
            simp only [F.sz] at g3
            simp only [List.length_append, List.length_singleton]
            omega⟩, by have := HW.out.next; simp only [F.sz] at this; omega⟩
          clear hp1 hp2 g1 g2 g3 o1 o2 o3 o4 o5 o6 o7 oa LA BL HW hN2 E
          go_wp2_with fail
          refine W1.out.mono ?_
          rintro e w2 ⟨rfl, h2, _⟩
          have P2 := Lib.hid (P1.out w2 h2)
          clear h2 P1 W1
          go_wp2_with fail
          refine P2.out.mono ?_
          rintro e w3 ⟨rfl, h3⟩
          have N3 := Lib.hid (NEXT.out _ h3)
          clear h3 P2 NEXT
          go_wp2
          go_roundw
          case rel => exact ⟨j + 1, N2, r, by go_num, rfl, by omega, by omega, N3⟩
          case measure => simp [intOf]; omega
theorem all_good (W : World) (b : Nat) (tv : Value) (ns : List Nd) (hns : NodesAt W tv ns) (hn4 : ns.length ≤ 4000) (htab : TabW W) (f : F) : okT f → AllGoodW W b tv ns f := by
  induction f with
  | nil => intro _; trivial
  | cons n k r hk hr =>
    intro h
    obtain ⟨a1, a2, a3, a4, a5, a6, a7⟩ := h
    exact ⟨write_good W b tv ns n k hns hn4 (hk a6) ⟨a1, a2, a3, a4, a5, a6, trivial⟩ htab, hr a7⟩
end Go.Proofs.YtncifeeinogcnaaDoor
/- Show: the contract. -/
set_option maxRecDepth 100000
namespace Go.Proofs.YtncifeeinogcnaaDoor
open Go.Shelf Go.RowKit Go.Lib Go.Sort Go.Proofs.TreeMath

def ShP (s : List UInt8) (c : Int) (w : World) (e : Ending) (w' : World) : Prop := e = .returned (.tuple #[.string ⟨s.toArray⟩, .int .i64 c]) ∧ Below w.heap.size w w'
set_option maxHeartbeats 1000000 in
theorem show_good (tv : Value) (n : Nd) (k : F) (w : World) (hns : NodesAt w tv (n :: k.flat)) (sm : SmallN (n :: k.flat)) (hb : tyB (n :: k.flat) = true) (ht : okT (.cons n k .nil)) (htab : TabW w) : Calls Tryd.prog 22 #[tv] w (ShP (shN n (shF k)) 0 w) := by
  have h4 : (n :: k.flat).length ≤ 4000 := by
    unfold tyB at hb
    simp only [Bool.and_eq_true, decide_eq_true_eq] at hb
    exact hb.1.1
  have CK := Lib.hid (check_any tv (n :: k.flat) w hns (by omega) sm)
  unfold CkP at CK
  rw [hb] at CK
  have GOOD := Lib.hid (fun b => (all_good w b tv (n :: k.flat) hns h4 htab (.cons n k .nil) ht).1 [] [] [] )
  have E : Hid (∀ w', Below w.heap.size w w' → ShP (shN n (shF k)) 0 w (.returned (.tuple #[.string ⟨(shN n (shF k)).toArray⟩, .int .i64 0])) w') := Lib.hid fun w' h => ⟨rfl, h⟩
  generalize ShP (shN n (shF k)) 0 w = Z at *
  have hsz : 1 + k.sz ≤ 4000 := by rw [List.length_cons, F.flat_length] at h4; omega
  have BND := Lib.hid hsz
  have START : Hid (∀ w1, Below w.heap.size w w1 → TS w w1.heap.size [] (w1.alloc (.cells #[.pointer none, .slice none 0 0] 77))) := Lib.hid fun w1 b1 => ⟨b1.alloc b1.size _, .inl ⟨b1.size, .slice none 0 0, heap_alloc_new w1 _, World.ownsRowF_nil _ _ _ _, by simp [Value.ownBlock]⟩⟩
  obtain ⟨q, c, rfl⟩ : ∃ q c, tv = .slice q (n :: k.flat).length c := by obtain ⟨_, q, c, e, _⟩ := hns; exact ⟨q, c, e⟩
  obtain ⟨M, hM⟩ : ∃ M, M = (n :: k.flat).length := ⟨_, rfl⟩
  rw [← hM] at CK GOOD ⊢
  clear hM hns sm hb ht htab h4 hsz
  go_enter Tryd.func22, Tryd.ntmps22
  go_wp2_with fail
  refine CK.out.mono ?_
  rintro e w1 ⟨rfl, b1⟩
  have T1 := Lib.hid (START.out w1 b1)
  have G1 := Lib.hid (GOOD.out w1.heap.size _ (by simp) (by have := BND.out; simp only [List.length_nil]; omega) T1.out)
  rw [List.nil_append] at G1
  clear b1 CK START GOOD T1
  go_wp2_with fail
  refine G1.out.mono ?_
  rintro e w2 ⟨rfl, h2⟩
  have ST := Lib.hid (string_any w.heap.size w1.heap.size _ w2 h2.bld h2.bel.size)
  have B2 := Lib.hid h2.bel
  clear h2 G1
  go_wp2_with fail
  refine ST.out.mono ?_
  rintro e w3 ⟨rfl, _, b3, _⟩
  have E3 := Lib.hid (E.out _ (B2.out.trans b3))
  clear b3 ST
  go_wp2
  first | go_ret2 | skip
  exact E3.out
end Go.Proofs.YtncifeeinogcnaaDoor
/- The document's own Show: digits, brackets. -/
set_option maxRecDepth 100000
namespace Go.Proofs.YtncifeeinogcnaaDoor
open Go.Shelf Go.RowKit Go.Lib Go.Sort Go.Proofs.TreeMath

def RSt (l : List UInt8) (w : World) (e : Ending) (w' : World) : Prop := e = .returned (.string ⟨l.toArray⟩) ∧ Below w.heap.size w w'
theorem RSt.is {l : List UInt8} {s : ByteArray} {w w' : World} (h : s.data.toList = l) (b : Below w.heap.size w w') : RSt l w (.returned (.string s)) w' := ⟨by rw [← h], b⟩
end Go.Proofs.YtncifeeinogcnaaDoor
