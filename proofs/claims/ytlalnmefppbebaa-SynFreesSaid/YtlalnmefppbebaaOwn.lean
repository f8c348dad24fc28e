/- A list of nodes of its own memory: the laws' own. -/
import Derived.Test.YtlalnmefppbebaaEnd
import Derived.Maps.AppendAt
namespace Go.Proofs.Ytlalnmefppbebaa
open Go.RowKit Go.Proofs.TreeMath
theorem info_of' {P : Program} {t : TypeId} {z : Value} {s b : Nat} (h : (P.info? t).map (fun i => (i.zero, i.size, i.bytes)) = some (some z, s, b)) : ∃ i, P.info? t = some i ∧ i.zero = some z ∧ i.size = s ∧ i.bytes = b := by
  cases hq : P.info? t with
  | none => rw [hq] at h; simp at h
  | some i => rw [hq] at h; simp at h; exact ⟨i, rfl, h.1, h.2.1, h.2.2⟩
def zeroNode : Value := .agg #[.int .i64 0, .string ByteArray.empty, .int .i64 0, .int .i64 0]
theorem infoNode : ∃ i, Try.prog.info? 42 = some i ∧ i.zero = some zeroNode ∧ i.size = 4 ∧ i.bytes = 40 := info_of' (by kernel_rfl)
/-- A function that returns a new list of nodes. -/
def NRet (W : World) (ns : List Nd) (e : Ending) (w' : World) : Prop := ∃ v', e = .returned v' ∧ NodesAt w' v' ns ∧ Below W.heap.size W w'
theorem own_zero (p : Option Addr) (c : Nat) (w : World) : Calls Try.prog 12 #[.slice p 0 c] w (NRet w []) := by
  rcases p with _ | a <;>
  · go_enter Try.func12, Try.ntmps12
    go_wp2
    go_ret
    exact ⟨_, rfl, ⟨rfl, _, _, rfl, Nat.le_refl _, by unfold maxLen; omega, fun h => absurd rfl h⟩, (Below.refl _ _).alloc (Nat.le_refl _) _⟩
theorem CellsIn.at {w : World} {b off : Nat} {cs : List Value} (h : CellsIn w b off cs) : ∀ j u, cs[j]? = some u → w.cell? ((⟨b, off, none⟩ : Addr).add j) = some u := by
  intro j u hj
  rw [Go.WideShapes.add_plain]
  exact h j u hj
theorem own_some (b off c : Nat) (ns : List Nd) (w : World) (hb : b < w.heap.size) (hc : Hid (CellsIn w b off (nodeCells ns))) (hn : ns.length ≤ 1000000) : Calls Try.prog 12 #[.slice (some ⟨b, off, none⟩) ns.length c] w (NRet w ns) := by
  obtain ⟨i0, hi, hz0, hz1, hz2⟩ := infoNode
  have HI := Lib.hid (And.intro hi (And.intro hz0 (And.intro hz1 hz2)))
  clear hi hz0 hz1 hz2
  go_enter Try.func12, Try.ntmps12
  go_wp2_with ((at_builtin; refine wpList_append_own _ rfl _ _ 22 rfl w.heap.size 42 i0 zeroNode 4 40 Try.underlying22 HI.out.1 HI.out.2.1 HI.out.2.2.1 HI.out.2.2.2 rfl (by decide) _ 0 [] rfl (World.ownsRow_made w #[] 0 (Nat.le_refl _) (Nat.zero_le _) rfl) ⟨b, off, none⟩ ns.length c (nodeCells ns) rfl (length_nodeCells ns) (hc.out.kept (Below.heap_alloc _ _ b hb)).at (nodeCells_one ns) (by unfold maxLen; omega) (by omega) (by simp) ?_; intro v' w3 hown' hgrow hnil; have HO3 := Lib.hid hown'; have HG := Lib.hid hgrow; clear hown' hgrow hnil))
  go_ret
  refine ⟨_, rfl, ?_, ?_⟩
  · have := SliceAt.of_owns HO3.out
    simpa [NodesAt] using this
  · exact ((Below.refl _ _).alloc (Nat.le_refl _) _).grown HG.out (by simp) fun k hk => by
      have hk' : some w.heap.size = some k := hk
      simp at hk'
      omega
theorem own_any (v : Value) (ns : List Nd) (w : World) (h : NodesAt w v ns) (hn : ns.length ≤ 1000000) : Calls Try.prog 12 #[v] w (NRet w ns) := by
  obtain ⟨_, p, c, rfl, _, _, hp⟩ := h
  rcases ns with _ | ⟨x, ns⟩
  · exact own_zero p c w
  · obtain ⟨b, off, rfl, hb, hc⟩ := hp (by simp)
    exact own_some b off c (x :: ns) w hb hc hn
end Go.Proofs.Ytlalnmefppbebaa
