/- Texts of this seat, one behind the other: LaF, DmA. -/
import Derived.Test.YtncifeeinogcnaaDoorKn33
import Derived.Lib.LaidTab
import Derived.LaidMore
import Derived.ProofKit
import Derived.OpenShut
import Derived.Stop.Joined
import Derived.Test.YtncifeeinogcnaaDoorKn27
import Derived.Test.YtncifeeinogcnaaDoorKn28
import Derived.Test.YtncifeeinogcnaaDoorKn29
import Derived.Test.YtncifeeinogcnaaDoorKn34
/- The laws' helpers: the library's table of powers, out of the row's condition. -/
set_option maxRecDepth 100000
namespace Go.Proofs.YtncifeeinogcnaaDoor
open Go.ChangeShapes Go.WideShapes Go.ChangeAt Go.RowKit
def laid3 {H : Type} : List (String × DataW H) := [("math/bits.deBruijn32tab", Rows.laid_math_bits_deBruijn32tab), ("math/bits.deBruijn64tab", Rows.laid_math_bits_deBruijn64tab), ("internal/strconv.uint64pow10", Rows.laid_internal_strconv_uint64pow10)]
theorem ownG : ownKnob Tryd.prog.godebug = none := by kernel_rfl
theorem laidOutG : laidOutB Tryd.prog = true := by kernel_rfl
theorem gPow : Tryd.prog.globalNamed "internal/strconv.uint64pow10" = some 0 := by kernel_rfl
theorem door_met (os : Os) (args : Array Value) : laidMetH Tryd.prog laid3 ((World.doorLaid Tryd.prog 400 os).forCall (fun _ _ => 0) ⟨#[], args, []⟩).memory :=
  laidMetH_of_parts3 (fuel := 8) (laidMet_of_run' 8 (by kernel_rfl) (by kernel_rfl)) (by kernel_rfl) (by kernel_rfl)
theorem tab_data {H : Type} : (Rows.laid_internal_strconv_uint64pow10 : DataW H) = Lib.tabData .u64 Lib.pow10Tab := by rfl
theorem tab_of {W : World} (h : laidMetH Tryd.prog laid3 W) : TabW W := by
  rw [MakeChecks.laidMetH_plain _ _ _ (by kernel_rfl)] at h
  obtain ⟨ps, ⟨g0, t0, cs0, f0, p0, q0, hg0, ht0, hv0, hd0, ⟨g1, t1, cs1, f1, p1, q1, hg1, ht1, hv1, hd1, ⟨g2, t2, cs2, f2, p2, q2, hg2, ht2, hv2, hd2, _, _⟩, _⟩, _⟩, _, _⟩ := h
  obtain rfl := Option.some.inj (gPow.symm.trans hg2)
  obtain rfl := Option.some.inj ((show (Tryd.prog.globals[0]?).map (·.type) = some 129 by kernel_rfl).symm.trans ht2)
  rw [tab_data] at hd2
  have e := Lib.cells_of_tab (t := 129) (e := 117) (n := 20) Tryd.underlying129 Tryd.underlying117 (by kernel_rfl) (by kernel_rfl) hd2
  intro w' b
  unfold Lib.TabIs
  rw [← e, Array.toArray_toList]
  unfold World.var? at hv2 ⊢
  rw [gPow] at hv2 ⊢
  simp only [Option.bind_some] at hv2 ⊢
  have hlt : 0 < W.heap.size := by
    apply Classical.byContradiction
    intro hn
    rw [Array.getElem?_eq_none (by omega)] at hv2
    simp at hv2
  rw [b.block 0 hlt]
  exact hv2
end Go.Proofs.YtncifeeinogcnaaDoor
/- Copies of declarations; the document's Find. -/
set_option maxRecDepth 100000
namespace Go
/-- The same where the operation is guarded, and its guard says yes. -/
theorem wpList_append_if {P : Program} (w : World) {ops : Array Oper} {rest : List Oper} {o : Oper} {a : Act} {Q : Exit → Act → World → Prop} (hgd : Region.wanted o (yielded ops a.tmps) = true) (s x : Operand) (t : TypeId)
    (ho : o.op = .call { callee := .builtin .append, args := #[s, x], argTypes := #[t, t] })
    (base : Nat) (e : TypeId) (i : TypeInfo) (z : Value) (size bytes : Nat) (ht : P.underlying t = some (.slice e)) (hi : P.info? e = some i) (hz : i.zero = some z)
    (hsize : i.size = size) (hby : i.bytes = bytes) (hzs : z.cells.size = size) (hsz : 0 < size)
    (v : Value) (n : Nat) (xs : List Value) (hs : a.eval s = v) (hown : w.ownsRow base e size v n xs)
    (q : Option Addr) (m c : Nat) (news : List Value) (hx : a.eval x = .slice q m c) (hl : news.length = m * size) (hq : m ≠ 0 → ∃ ad, q = some ad ∧ ∀ j u, news[j]? = some u → w.cell? (ad.add j) = some u) (h1 : ∀ u ∈ news, u.oneCell' = true)
    (h63 : n + m ≤ maxLen) (hbytes : (n + m) * bytes ≤ 140737488355328) (hbase : base ≤ w.heap.size)
    (h : ∀ p' cap' w', w'.ownsRow base e size (.slice p' (n + m) cap') (n + m) (xs ++ news) → w.grownBy w' v.ownBlock → ((Value.slice p' (n + m) cap').ownBlock = v.ownBlock ∨ (Value.slice p' (n + m) cap').ownBlock = some w.heap.size) → wpList P ops Q rest (a.put o.dst (.slice p' (n + m) cap')) w') : wpList P ops Q (o :: rest) a w := by
  obtain ⟨v', w', hr, h2, h3, h4, h5⟩ := run_append_any (P := P) w base t o.type e i z size bytes ht hi hz hsize hby hzs hsz v n xs hown q m c news hl hq h1 h63 hbytes hbase
  obtain ⟨p', cap', rfl⟩ : ∃ p' cap', v' = .slice p' (n + m) cap' := by
    rcases h2.2 with ⟨rfl, e⟩ | ⟨g, cap, cur, rfl, _⟩
    · exact ⟨none, 0, by rw [e]⟩
    · exact ⟨_, _, rfl⟩
  refine wpList_step fun K hK => ?_
  rw [if_pos hgd]
  unfold Oper.wp execOp
  simp only [ho, resolve, invoke, builtin, Sem.run_bind, Sem.run_pure, Result.andThen_ok, List.map_toArray, List.map_cons, List.map_nil, hs, hx, hr]
  exact hK _ _ (h p' cap' w' h2 h3 h5)
end Go
namespace Go.Proofs.YtncifeeinogcnaaDoor
open Go.Shelf Go.RowKit Go.Lib Go.Sort Go.Maps Go.Proofs.TreeMath Go.Proofs.LexMath

def RBt (w : World) (e : Ending) (w' : World) : Prop := e = .returned (.bool true) ∧ Below w.heap.size w w'
theorem infoD : ∃ i, Tryd.prog.info? 30 = some i ∧ i.zero = some (.agg #[.string ⟨#[]⟩, .int .i64 0, .slice none 0 0]) ∧ i.size = 3 ∧ i.bytes = 48 := info_of' (by kernel_rfl)
theorem dts_copy {w w' : World} {B : Nat} {v u : Value} {ds : List Dt} (h : DtsAt w v ds) (hr : w'.ownsRow B 30 3 u ds.length (ds.flatMap Dt.cells)) (b : Below w.heap.size w w') : DtsAt w' u ds := ⟨SliceAt.of_owns hr, fun d hd => (h.2 d hd).below b⟩
theorem cells3_len (ds : List Dt) : (ds.flatMap Dt.cells).length = ds.length * 3 := by
  induction ds with
  | nil => rfl
  | cons c cs ih => rw [List.flatMap_cons, List.length_append, ih]; simp [Dt.cells]; omega
theorem dts_one {w : World} {v : Value} {ds : List Dt} (h : DtsAt w v ds) : ∀ u ∈ ds.flatMap Dt.cells, u.oneCell' = true := by
  intro u hu
  obtain ⟨d, hd, hu⟩ := List.mem_flatMap.1 hu
  obtain ⟨p, c, e⟩ := (h.2 d hd).form
  unfold Dt.cells at hu
  rw [e] at hu
  simp only [List.mem_cons, List.not_mem_nil, or_false] at hu
  rcases hu with rfl | rfl | rfl <;> rfl
theorem dts_src {w : World} {lq : Option Addr} {n lc : Nat} {ds : List Dt} (h : DtsAt w (.slice lq n lc) ds) (hn : n = ds.length) : ∀ W, Below w.heap.size w W → n ≠ 0 → ∃ ad, lq = some ad ∧ ∀ j u, (ds.flatMap Dt.cells)[j]? = some u → W.cell? (ad.add j) = some u := by
  intro W hW h0
  obtain ⟨_, p, c, e, _, _, h4⟩ := h.1
  simp only [Value.slice.injEq] at e
  obtain ⟨rfl, -, -⟩ := e
  obtain ⟨b, o, rfl, hb, hc⟩ := h4 (by omega)
  exact ⟨_, rfl, (hc.kept (hW.block b hb)).at⟩
theorem few_tiny {d : Dt} (h : FewDt d) : TinyD d := ⟨by have := h.1; omega, by have := h.2.1; omega, fun c hc => ⟨by have := (h.2.2 c hc).1; omega, by have := (h.2.2 c hc).2.1; omega, fun t ht => ⟨by have := ((h.2.2 c hc).2.2 t ht).1; omega, fun n hn => by have := ((h.2.2 c hc).2.2 t ht).2 n hn; omega⟩⟩⟩
theorem node_cell {w : World} {v : Value} {L : List Nd} (h : NodesAt w v L) (i : Nat) (hi : i < L.length) : ∃ b off c, v = .slice (some ⟨b, off, none⟩) L.length c ∧ b < w.heap.size ∧ w.cell? ⟨b, off + i * 4, none⟩ = some (.int .i64 (L.getD i default).kind) ∧ w.cell? ⟨b, off + i * 4 + 1, none⟩ = some (.string (L.getD i default).text) ∧
    w.cell? ⟨b, off + i * 4 + 2, none⟩ = some (.int .i64 (L.getD i default).num) ∧ w.cell? ⟨b, off + i * 4 + 3, none⟩ = some (.int .i64 (L.getD i default).kids) := by
  obtain ⟨_, p, c, rfl, _, _, h4⟩ := h
  obtain ⟨b, off, rfl, hb, hc⟩ := h4 (by omega)
  exact ⟨b, off, c, rfl, hb, CellsIn.node hc i hi⟩
theorem few_len {ds : List Dt} (h : FewDs ds) : ds.length ≤ 1000000 ∧ ∀ d ∈ ds, d.cons.length ≤ 1000000 := ⟨by have := h.1; omega, fun d hd => by have := (h.2 d hd).2.1; omega⟩
def RfP (w : World) (r : Option (Nat × Nat)) (e : Ending) (w' : World) : Prop := e = fndE r ∧ w = w'
theorem rfind_any (lv : Value) (ds : List Dt) (con : ByteArray) (w : World) (h : DtsAt w lv ds) (hf : FewDs ds) : Calls Tryd.prog 10 #[lv, .string con] w (RfP w (findC ds con)) := by
  have H := Lib.hid h
  obtain ⟨lq, lc, rfl⟩ := h.form
  obtain ⟨n, hnn⟩ : ∃ n, n = ds.length := ⟨_, rfl⟩
  have HN := Lib.hid hnn
  have n70 : n ≤ 70 := by rw [hnn]; exact hf.1
  have FD := Lib.hid hf.2
  obtain ⟨p, hp⟩ : ∃ p : Dt → Ct → Bool, p = fun _ c => decide (c.name = con) := ⟨_, rfl⟩
  have HP := Lib.hid (fun (d : Dt) (c : Ct) => show p d c = decide (c.name = con) by rw [hp])
  have FC : findC ds con = findD p ds 0 := by rw [hp]; rfl
  have E1 : Hid (∀ i j, findD p ds 0 = some (i, j) → RfP w (findC ds con) (.returned (.tuple #[.int .i64 (i : Nat), .int .i64 (j : Nat), .bool true])) w) := Lib.hid fun i j e => ⟨by rw [FC, e]; rfl, rfl⟩
  have E2 : Hid (findD p ds 0 = none → RfP w (findC ds con) (.returned (.tuple #[.int .i64 0, .int .i64 0, .bool false])) w) := Lib.hid fun e => ⟨by rw [FC, e]; rfl, rfl⟩
  rw [← hnn]
  generalize RfP w (findC ds con) = Z at E1 E2 ⊢
  clear h hnn hf FC hp
  go_enter Tryd.func10, Tryd.ntmps10
  go_wp2
  go_loop [7] (fun s7 => ∃ i : Nat, i ≤ n ∧ s7 = .int .i64 i ∧ Hid (findD p ds 0 = findD p (ds.drop i) i)) (fun s7 => n - (intOf s7).toNat)
  case atStart => exact ⟨0, Nat.zero_le _, rfl, Lib.hid rfl⟩
  case round =>
    obtain ⟨i, hi, rfl, hF⟩ := hrel
    by_cases hlt : i < n
    · have t0 : decide ((i : Int) < (n : Int)) = true := by simpa using hlt
      obtain ⟨b, o, c, e, hb, c0, c1, c2⟩ := H.out.cell i (by rw [← HN.out]; exact hlt)
      simp only [Value.slice.injEq] at e
      obtain ⟨rfl, -, -⟩ := e
      have DM := getD_mem ds i (by rw [← HN.out]; exact hlt)
      have CF := Lib.hid (H.out.2 _ DM)
      have FCD := FD.out _ DM
      have DG := Lib.hid (drop_get ds i (by rw [← HN.out]; exact hlt))
      obtain ⟨d, hd⟩ : ∃ d, d = ds.getD i default := ⟨_, rfl⟩
      rw [← hd] at c2 CF FCD DG
      obtain ⟨lq2, lc2, ecv⟩ := CF.out.form
      obtain ⟨m, hm⟩ : ∃ m, m = d.cons.length := ⟨_, rfl⟩
      have m70 : m ≤ 70 := by rw [hm]; exact FCD.2.1
      rw [← hm] at ecv
      rw [ecv] at c2
      have HM := Lib.hid hm
      have ECV := Lib.hid ecv
      clear DM hd ecv hm FCD hb c0 c1
      go_wp2
      go_loop [8] (fun s8 => ∃ j : Nat, j ≤ m ∧ s8 = .int .i64 j ∧ Hid (d.cons.findIdx? (p d) = ((d.cons.drop j).findIdx? (p d)).map (· + j))) (fun s8 => m - (intOf s8).toNat)
      case atStart => exact ⟨0, Nat.zero_le _, rfl, Lib.hid (by simp)⟩
      case round =>
        obtain ⟨j, hj, rfl, hF2⟩ := hrel
        by_cases hlt2 : j < m
        · have t1 : decide ((j : Int) < (m : Int)) = true := by simpa using hlt2
          obtain ⟨b2, o2, cc, e2, hb2, k0, k1⟩ := CF.out.cell j (by rw [← HM.out]; exact hlt2)
          rw [ECV.out] at e2
          simp only [Value.slice.injEq] at e2
          obtain ⟨rfl, -, -⟩ := e2
          have FI := Lib.hid (findIdx_drop (p d) d.cons j (by rw [← HM.out]; exact hlt2))
          have PD := HP.out d (d.cons.getD j default)
          obtain ⟨cn, hcn⟩ : ∃ cn, cn = (d.cons.getD j default).name := ⟨_, rfl⟩
          rw [← hcn] at k0 PD
          clear hcn hb2 k1
          by_cases h : cn = con
          · subst h
            rw [decide_eq_true rfl] at PD
            have E : Hid (findD p ds 0 = some (i, j)) := Lib.hid (by
              rw [hF.out, DG.out]
              have h1 := hF2.out
              rw [FI.out, if_pos PD] at h1
              have h2 : d.cons.findIdx? (p d) = some j := by simpa using h1
              simp only [findD, h2])
            have F := Lib.hid (E1.out i j E.out)
            clear hF2 FI hF E PD
            go_wp2
            go_ret3
            exact F.out
          · rw [decide_eq_false h] at PD
            have u1 := str_ne h
            have u2 := str_ne' h
            have NF : Hid (d.cons.findIdx? (p d) = ((d.cons.drop (j + 1)).findIdx? (p d)).map (· + (j + 1))) := Lib.hid (by
              rw [hF2.out, FI.out, if_neg (by rw [PD]; decide), Option.map_map]
              congr 1
              funext x
              show x + 1 + j = x + (j + 1)
              omega)
            clear hF2 FI PD h
            go_wp2
            go_round
            case rel => exact ⟨j + 1, by omega, by go_num, NF⟩
            case measure => simp [intOf]; omega
        · obtain rfl : j = m := by omega
          have t1 : decide ((j : Int) < (j : Int)) = false := by simp
          have NF : Hid (findD p ds 0 = findD p (ds.drop (i + 1)) (i + 1)) := Lib.hid (by
            rw [hF.out, DG.out]
            have h1 := hF2.out
            rw [HM.out, List.drop_length] at h1
            have h2 : d.cons.findIdx? (p d) = none := h1
            simp only [findD, h2])
          clear hF2 hF
          go_wp2
          go_round
          case rel => exact ⟨i + 1, by omega, by go_num, NF⟩
          case measure => simp [intOf]; omega
    · obtain rfl : i = n := by omega
      have t0 : decide ((i : Int) < (i : Int)) = false := by simp
      have F := Lib.hid (E2.out (by rw [hF.out, HN.out, List.drop_length]; rfl))
      clear hF
      go_wp2
      go_ret3
      exact F.out
end Go.Proofs.YtncifeeinogcnaaDoor
