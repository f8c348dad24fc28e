/- What the walk of SynPuts is of. -/
import Derived.Test.YtgbggdghgdeohaaSynU
import Derived.Test.YtgbggdghgdeohaaUp
namespace Go.Proofs.Ytgbggdghgdeohaa
open Go.RowKit Go.Proofs.TreeMath
theorem prev_par (f : F) (hok : f.ok) (hz : synE f 0 = 0) (a : Nat) (ha : a < f.sz) (h : prevK f a = 8) : 0 < a ∧ IsPar (kk f.flat) (a - 1) a := by
  unfold prevK at h
  split at h
  · cases h
  · rename_i h0
    refine ⟨by omega, by omega, 0, ?_, ?_⟩
    · rw [kk_get]
      obtain ⟨z1, z2, z3, z4⟩ := synE_zero hz
      obtain ⟨n, k, pre, post, p, e1, e2, r1, r2, _, _, r5, _⟩ := part_at f hok (fun _ => 0) 0 (a - 1) (by omega) (fun _ => by omega) z3 z4 (nd_tw f _ 0 (fun _ => .inl rfl) z4)
      have e : f.flat.getD (a - 1) default = n := by rw [e1, ← e2]; simp [List.getD_eq_getElem?_getD]
      rw [e] at h ⊢
      have := fault_kids r5
      rw [h] at this
      simp [kidsB] at this
      omega
    · rw [show a - 1 + 1 = a by omega, fin_zero]
theorem prev_of (f : F) (hok : f.ok) (hz : synE f 0 = 0) (a m : Nat) (ha : a < f.sz) (hp : IsPar (kk f.flat) m a) : prevK f a = 8 ↔ (f.flat.getD m default).kind = 8 ∧ a = m + 1 := by
  constructor
  · intro h
    obtain ⟨h1, h2⟩ := prev_par f hok hz a ha h
    have := par_uniq _ _ _ _ hp h2
    subst this
    unfold prevK at h
    rw [if_neg (by omega)] at h
    exact ⟨h, by omega⟩
  · rintro ⟨h, rfl⟩
    unfold prevK
    rw [if_neg (by omega)]
    exact h
theorem put_is (ns bs : List Nd) (f : F) (h1 : f.ok) (h2 : f.cnt = 1) (h3 : f.flat = ns) (hz : synE f 0 = 0) (m : Nd) (k2 : F) (g1 : m.kids = k2.cnt) (g2 : k2.ok) (g3 : m :: k2.flat = bs) (gz : synE (.cons m k2 .nil) 0 = 0) (hl : f.sz ≤ 120) (hb : 1 + k2.sz ≤ 120) (hd : deepF f + (1 + deepF k2) ≤ 90) (a : Nat) (ha : a < ns.length) (hp : patB (ns.getD a default).kind = false) :
    ∃ f' : F, f'.ok ∧ f'.cnt = 1 ∧ putE ns a bs = false ∧ putL ns a bs = f'.flat ∧ f'.sz ≤ 240 ∧ synE f' 0 = if prevK f a = 8 ∧ m.kind ≠ 5 then 61 else 0 := by
  obtain ⟨z1, z2, z3, z4⟩ := synE_zero hz
  obtain ⟨y1, y2, y3, y4⟩ := synE_zero gz
  simp only [chkF, twF, or_eq_zero] at y3 y4
  obtain ⟨n, k, pre, post, e1, e2, r1, r2, _, e5⟩ := put_at f h1 (fun _ => 0) 0 a (by rw [← F.flat_length, h3]; exact ha) z3 z4 (by rw [h3]; exact hp)
  obtain ⟨f', p1, p2, p3, p4, p5, p6, p7⟩ := e5 m k2 g1 g2 y3.1 y3.2.1 y4.2.1
  have hns : ns = pre ++ (n :: (k.flat ++ post)) := by rw [← h3, e1]
  have hfin := fin_flat (.cons n k .nil) ⟨r1, r2, trivial⟩ pre post
  rw [show pre ++ ((F.cons n k .nil).flat ++ post) = ns by rw [hns]; simp [F.flat], e2] at hfin
  have hfin : fin (kk ns) a 1 = ((a + (1 + k.sz) : Nat) : Int) := hfin
  have hw : wholeB (kk bs) = true := by
    have := whole_flat (.cons m k2 .nil) ⟨g1, g2, trivial⟩ rfl
    rwa [one_flat, g3] at this
  have hE : putE ns a bs = false := by
    unfold putE
    rw [endI_nat, hfin, hw]
    simp
    omega
  have hlen : f'.sz + k.sz = f.sz + k2.sz := by
    have c1 := congrArg List.length p3
    have c2 := congrArg List.length e1
    simp [F.flat_length] at c1 c2
    omega
  refine ⟨f', p1, by rw [p2, h2], hE, ?_, by omega, ?_⟩
  · unfold putL
    rw [hE, endI_nat, hfin, p3, ← g3]
    simp only [Bool.false_eq_true, if_false, Int.toNat_natCast]
    rw [hns, ← e2, List.take_left, show pre.length + (1 + k.sz) = (pre ++ n :: k.flat).length by simp [F.flat_length]; omega, show pre ++ (n :: (k.flat ++ post)) = (pre ++ n :: k.flat) ++ post by simp, List.drop_left]
    simp
  · unfold synE
    rw [if_neg (by omega), p6, p7]
    simp [or_zero]
theorem up_zero (v : Value) (ns : List Nd) (W : World) (h : NodesAt W v ns) (hn : ns.length ≤ 1000000) : Calls Try.prog 28 #[v, .int .i64 ((0 : Nat) : Int)] W (fun e w' => e = .returned (.int .i64 (-1)) ∧ W = w') := up_not v ns _ W h hn (.inl (by simp))
theorem up_pos (v : Value) (ns : List Nd) (a : Nat) (W : World) (h : NodesAt W v ns) (hn : ns.length ≤ 1000000) (h0 : 0 < a) (ha : a < ns.length) (hw : wholeB (kk ns) = true) : Calls Try.prog 28 #[v, .int .i64 (a : Int)] W (UpRet (kk ns) a W) := by
  obtain ⟨b, off, c, rfl, q1, q2, q3, q4⟩ := nodes_slice h (by omega)
  exact up_in b off ns.length c a ns W h (Lib.hid rfl) hn (Lib.hid q4) h0 ha (Lib.hid hw)
theorem par_ex (ks : List Int) (h : wholeB ks = true) (i : Nat) (h0 : 0 < i) (hi : i < ks.length) : ∃ p, IsPar ks p i := by
  have key : ∀ q b : Nat, q < i → fin ks (q + 1) b = (i : Int) → ∃ p, IsPar ks p i := by
    intro q
    induction q with
    | zero =>
      intro b hq hf
      by_cases hk : ks.getD 0 0 ≤ b
      · have := (up_more ks h 0 b i hq hi hf hk).1
        omega
      · exact ⟨0, hq, b, by omega, hf⟩
    | succ q ih =>
      intro b hq hf
      by_cases hk : ks.getD (q + 1) 0 ≤ b
      · exact ih _ (by omega) (up_more ks h (q + 1) b i hq hi hf hk).2
      · exact ⟨q + 1, hq, b, by omega, hf⟩
  exact key (i - 1) 0 (by omega) (by rw [show i - 1 + 1 = i by omega, fin_zero])
theorem kind_cell {w W : World} {b off : Nat} {ns : List Nd} (h : CellsIn w b off (nodeCells ns)) (hb : b < w.heap.size) (hW : Below w.heap.size w W) (i : Nat) (hi : i < ns.length) : W.cell? ⟨b, off + i * 4, none⟩ = some (.int .i64 (ns.getD i default).kind) := by
  have e := hW.block b hb
  exact ((h.kept e).node i hi).1
end Go.Proofs.Ytgbggdghgdeohaa
