/- Texts of this seat, one behind the other: DaL. -/
import Derived.Test.YtncifeeinogcnaaDoorKn20
import Derived.Test.YtncifeeinogcnaaDoorKn16
/- Arrow. -/
set_option maxRecDepth 100000
namespace Go.Proofs.YtncifeeinogcnaaDoor
open Go.Shelf Go.RowKit Go.Lib Go.Sort Go.Maps Go.Proofs.TreeMath Go.Proofs.LexMath

/-- The head of a function's type. -/
def arrH : Nd := ⟨32, sArrow, 0, 2⟩
def arrL (Ls : List (List Nd)) : List Nd := Ls.flatMap fun L => arrH :: L
/-- The type of a function. -/
def arrN (Ls : List (List Nd)) (tl : List Nd) : List Nd := arrL Ls ++ tl
theorem arrL_take (Ls : List (List Nd)) (i : Nat) (hi : i < Ls.length) : arrL (Ls.take (i + 1)) = (arrL (Ls.take i) ++ [arrH]) ++ Ls.getD i [] := by
  unfold arrL
  rw [List.take_succ_eq_append_getElem hi, List.flatMap_append, List.getD_eq_getElem?_getD, List.getElem?_eq_getElem hi]
  simp
theorem arrL_le (Ls : List (List Nd)) (i : Nat) : (arrL (Ls.take i)).length ≤ (arrL Ls).length := by
  have : arrL Ls = arrL (Ls.take i) ++ arrL (Ls.drop i) := by unfold arrL; rw [← List.flatMap_append, List.take_append_drop]
  rw [this, List.length_append]; omega
theorem arrL_len (Ls : List (List Nd)) : Ls.length ≤ (arrL Ls).length := by
  unfold arrL
  induction Ls with
  | nil => simp
  | cons L Ls ih => rw [List.flatMap_cons, List.length_append, List.length_cons, List.length_cons]; omega
theorem nodes_form' {w : World} {v : Value} {l : List Nd} (h : NodesAt w v l) : ∃ q c, v = .slice q l.length c := by obtain ⟨_, q, c, e, _⟩ := h; exact ⟨q, c, e⟩
theorem src_of {w : World} {v : Value} {L : List Nd} (h : NodesAt w v L) : ∃ q c, v = .slice q L.length c ∧ (L.length ≠ 0 → ∃ ad, q = some ad ∧ ∀ j u, (nodeCells L)[j]? = some u → w.cell? (ad.add j) = some u) := by
  obtain ⟨_, q, c, e, _, _, hp⟩ := h
  refine ⟨q, c, e, fun hne => ?_⟩
  obtain ⟨b, off, rfl, _, hc⟩ := hp hne
  exact ⟨_, rfl, hc.at⟩
theorem lit_at (w : World) (cs : Array Value) (t : TypeId) : CellsIn (w.alloc (.cells cs t)) w.heap.size 0 cs.toList := fun j u hj => by
  have h := heap_alloc_new w (.cells cs t)
  rw [Nat.zero_add]
  have := Lib.cell_of_heap h j
  rw [this]
  simpa using hj
set_option maxHeartbeats 1000000 in
theorem arrow_any (lv tv : Value) (Ls : List (List Nd)) (tl : List Nd) (w : World) (h : ListsAt w lv Ls) (ht : NodesAt w tv tl) (hn : (arrN Ls tl).length ≤ 1000000) : Calls Tryd.prog 16 #[lv, tv] w (NOwn w (arrN Ls tl)) := by
  obtain ⟨i0, hi, hz0, hz1, hz2⟩ := infoNode
  have HI := Lib.hid (And.intro hi (And.intro hz0 (And.intro hz1 hz2)))
  clear hi hz0 hz1 hz2
  obtain ⟨vs, ⟨hvl, lq, lc, rfl, _, _, hp⟩, hvs⟩ := h
  have HP := Lib.hid hp
  have HVS := Lib.hid hvs
  have HT := Lib.hid ht
  obtain ⟨n, hnn⟩ : ∃ n, n = Ls.length := ⟨_, rfl⟩
  have HN := Lib.hid hnn
  have HVL := Lib.hid hvl
  have HL : Hid ((arrN Ls tl).length = (arrL Ls).length + tl.length) := Lib.hid (by unfold arrN; rw [List.length_append])
  have E : Hid (∀ v w', w'.ownsRow w.heap.size 42 4 v (arrN Ls tl).length (nodeCells (arrN Ls tl)) → Below w.heap.size w w' → NOwn w (arrN Ls tl) (.returned v) w') := Lib.hid fun v w' h1 h2 => ⟨v, rfl, h1, h2⟩
  obtain ⟨tq, tc, htv⟩ := nodes_form' ht
  subst htv
  rw [← hnn]
  generalize NOwn w (arrN Ls tl) = Z at E ⊢
  have hnl : n ≤ 1000000 := by
    have h1 := arrL_len Ls
    have := HL.out
    omega
  have HM := Lib.hid hn
  clear hp hvs ht hvl hnn hn
  go_enter Tryd.func16, Tryd.ntmps16
  go_wp2
  go_loopw [5, 10] (fun s5 s10 wr => ∃ (i k : Nat) (q : Option Addr) (c : Nat), i ≤ n ∧ s10 = .int .i64 i ∧ s5 = .slice q k c ∧ Hid (k = (arrL (Ls.take i)).length ∧ wr.ownsRow w.heap.size 42 4 (.slice q k c) k (nodeCells (arrL (Ls.take i))) ∧ Below w.heap.size w wr)) (fun _ s10 _ => n - (intOf s10).toNat)
  case atStart => exact ⟨0, 0, none, 0, Nat.zero_le _, rfl, rfl, Lib.hid ⟨rfl, World.ownsRow_nil _ _ _ _, Below.refl _ _⟩⟩
  case round =>
    obtain ⟨wo, hwo⟩ : ∃ wo : World, wo = wr := ⟨_, rfl⟩
    subst hwo
    obtain ⟨i, k, q, c, hi, rfl, rfl, hS⟩ := hrel
    by_cases hlt : i < n
    · have k2 : ((i : Int) < (n : Int)) := by omega
      obtain ⟨b, off, rfl, hb, hc⟩ := HP.out (by rw [← HN.out]; omega)
      have c0 := (hc.kept ((hS.out.2.2).block b hb)) i (vs.getD i default) (by
        rw [List.getD_eq_getElem?_getD, List.getElem?_eq_getElem (by rw [HVL.out, Nat.mul_one, ← HN.out]; exact hlt)]; rfl)
      have NV := Lib.hid (HVS.out i (by rw [← HN.out]; exact hlt))
      have AT := Lib.hid (arrL_take Ls i (by rw [← HN.out]; exact hlt))
      have AL := Lib.hid (arrL_le Ls (i + 1))
      obtain ⟨aq, ac, eav⟩ := nodes_form' NV.out
      obtain ⟨m, hm⟩ : ∃ m, m = (Ls.getD i []).length := ⟨_, rfl⟩
      rw [eav, ← hm] at c0
      have HMM := Lib.hid hm
      have HEA := Lib.hid eav
      have K1 : Hid (k + 1 + m ≤ 1000000) := Lib.hid (by
        have h1 := AL.out
        rw [AT.out, List.length_append, List.length_append, List.length_singleton, ← hS.out.1, ← hm] at h1
        have := HL.out
        have := HM.out
        omega)
      clear hc hb eav hm
      have BK := Lib.hid (box_keep (W := wo) (.cells #[.int .i64 32, .string ⟨#[45, 62]⟩, .int .i64 0, .int .i64 2] 42))
      have R1 : Hid ((wo.alloc (.cells #[.int .i64 32, .string ⟨#[45, 62]⟩, .int .i64 0, .int .i64 2] 42)).ownsRow w.heap.size 42 4 (.slice q k c) k (nodeCells (arrL (Ls.take i)))) := Lib.hid (World.ownsRow.keep hS.out.2.1 fun g hg => BK.out.block g (World.ownsRow.there hS.out.2.1 hg).2)
      have LC := Lib.hid (CellsIn.at (lit_at wo #[.int .i64 32, .string ⟨#[45, 62]⟩, .int .i64 0, .int .i64 2] 42))
      have MX := Lib.hid (show k + 1 ≤ maxLen ∧ (k + 1) * 40 ≤ 140737488355328 ∧ w.heap.size ≤ (wo.alloc (.cells #[.int .i64 32, .string ⟨#[45, 62]⟩, .int .i64 0, .int .i64 2] 42)).heap.size ∧ k + 1 + m ≤ maxLen ∧ (k + 1 + m) * 40 ≤ 140737488355328 from ⟨by unfold maxLen; have := K1.out; omega, by have := K1.out; omega, Nat.le_trans hS.out.2.2.size BK.out.size, by unfold maxLen; have := K1.out; omega, by have := K1.out; omega⟩)
      have SR : Hid (∀ W, Below w.heap.size w W → m ≠ 0 → ∃ ad, aq = some ad ∧ ∀ j u, (nodeCells (Ls.getD i []))[j]? = some u → W.cell? (ad.add j) = some u) := Lib.hid fun W hW h0 => by
        obtain ⟨q', c', e', h'⟩ := src_of (NV.out.below hW)
        rw [HEA.out] at e'
        simp only [Value.slice.injEq] at e'
        rw [e'.1]
        exact h' (by rw [← HMM.out]; exact h0)
      have ML : Hid ((nodeCells (Ls.getD i [])).length = m * 4) := Lib.hid (by rw [length_nodeCells, ← HMM.out])
      go_wp2_with ((at_builtin; first | (refine wpList_append_any _ rfl _ _ 36 rfl w.heap.size 42 i0 zeroNode 4 40 Tryd.underlying36 HI.out.1 HI.out.2.1 HI.out.2.2.1 HI.out.2.2.2 rfl (by decide) (.slice q k c) k (nodeCells (arrL (Ls.take i))) rfl R1.out (some ⟨wo.heap.size, 0, none⟩) 1 1 [.int .i64 32, .string ⟨#[45, 62]⟩, .int .i64 0, .int .i64 2] rfl rfl (fun _ => ⟨_, rfl, LC.out⟩) (by intro u hu; simp at hu; rcases hu with rfl | rfl | rfl | rfl <;> rfl) MX.out.1 MX.out.2.1 MX.out.2.2.1 ?_; intro p' cap' w3 hown hgrow hblk; have RN := Lib.hid hown; have B3 := Lib.hid (((hS.out.2.2).trans (BK.out.mono hS.out.2.2.size)).grown hgrow MX.out.2.2.1 fun g e => (World.ownsRow.there hS.out.2.1 e).1); clear hown hgrow hblk) | (refine wpList_append_any _ rfl _ _ 36 rfl w.heap.size 42 i0 zeroNode 4 40 Tryd.underlying36 HI.out.1 HI.out.2.1 HI.out.2.2.1 HI.out.2.2.2 rfl (by decide) (.slice p' (k + 1) cap') (k + 1) (nodeCells (arrL (Ls.take i)) ++ [.int .i64 32, .string ⟨#[45, 62]⟩, .int .i64 0, .int .i64 2]) rfl RN.out aq m ac (nodeCells (Ls.getD i [])) rfl ML.out (SR.out _ B3.out) (nodeCells_one _) MX.out.2.2.2.1 MX.out.2.2.2.2 B3.out.size ?_; intro p2 cap2 w5 hown hgrow hblk; have RN2 := Lib.hid hown; have B5 := Lib.hid (B3.out.grown hgrow B3.out.size fun g e => (World.ownsRow.there RN.out e).1); clear hown hgrow hblk)))
      go_roundw
      case rel =>
        refine ⟨i + 1, k + 1 + m, p2, cap2, hlt, by go_num, rfl, Lib.hid ⟨?_, ?_, B5.out⟩⟩
        · rw [AT.out, List.length_append, List.length_append, List.length_singleton, ← hS.out.1, ← HMM.out]
        · rw [AT.out, nodeCells_append, nodeCells_append]
          exact RN2.out
      case measure => simp [intOf]; omega
    · obtain rfl : i = n := by omega
      have ET : Hid (Ls.take i = Ls) := Lib.hid (List.take_of_length_le (by rw [← HN.out]; exact Nat.le_refl _))
      have R1 : Hid (wo.ownsRow w.heap.size 42 4 (.slice q k c) k (nodeCells (arrL Ls))) := Lib.hid (by have := hS.out.2.1; rw [ET.out] at this; exact this)
      have HK : Hid (k = (arrL Ls).length) := Lib.hid (by have := hS.out.1; rw [ET.out] at this; exact this)
      have BB := Lib.hid hS.out.2.2
      obtain ⟨m, hm⟩ : ∃ m, m = tl.length := ⟨_, rfl⟩
      have HMM := Lib.hid hm
      rw [← hm]
      have SR : Hid (m ≠ 0 → ∃ ad, tq = some ad ∧ ∀ j u, (nodeCells tl)[j]? = some u → wo.cell? (ad.add j) = some u) := Lib.hid fun h0 => by
        obtain ⟨q', c', e', h'⟩ := src_of (HT.out.below BB.out)
        simp only [Value.slice.injEq] at e'
        rw [e'.1]
        exact h' (by rw [← HMM.out]; exact h0)
      have MX := Lib.hid (show k + m ≤ maxLen ∧ (k + m) * 40 ≤ 140737488355328 ∧ (nodeCells tl).length = m * 4 from by
        have h1 := HL.out
        have h2 := HM.out
        rw [← HK.out, ← hm] at h1
        refine ⟨by unfold maxLen; omega, by omega, by rw [length_nodeCells, ← hm]⟩)
      clear hS hm
      go_wp2_with ((at_builtin; refine wpList_append_any _ rfl _ _ 36 rfl w.heap.size 42 i0 zeroNode 4 40 Tryd.underlying36 HI.out.1 HI.out.2.1 HI.out.2.2.1 HI.out.2.2.2 rfl (by decide) (.slice q k c) k (nodeCells (arrL Ls)) rfl R1.out tq m tc (nodeCells tl) rfl MX.out.2.2 SR.out (nodeCells_one _) MX.out.1 MX.out.2.1 BB.out.size ?_; intro p2 cap2 w5 hown hgrow hblk; have RN2 := Lib.hid hown; have B5 := Lib.hid (BB.out.grown hgrow BB.out.size fun g e => (World.ownsRow.there R1.out e).1); clear hown hgrow hblk))
      first | go_ret | skip
      refine E.out _ _ ?_ B5.out
      rw [HL.out, ← HK.out, ← HMM.out, show nodeCells (arrN Ls tl) = nodeCells (arrL Ls) ++ nodeCells tl from nodeCells_append _ _]
      exact RN2.out
end Go.Proofs.YtncifeeinogcnaaDoor
