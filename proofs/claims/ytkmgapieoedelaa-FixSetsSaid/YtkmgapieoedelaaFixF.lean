/- The contracts of Find: the program's and the document's. -/
import Derived.Test.YtkmgapieoedelaaFixL
import Derived.Lib.Hide
namespace Go.Proofs.Ytkmgapieoedelaa
open Go.Shelf Go.RowKit Go.Lib Go.Proofs.FixMath

theorem bytes_beq (a b : ByteArray) : (a.toList == b.toList) = decide (a = b) := by
  rw [Bool.eq_iff_iff, beq_iff_eq, decide_eq_true_eq, ByteArray.toList_eq, ByteArray.toList_eq]
  exact ⟨fun h => Go.WideShapes.bytes_inj h, fun h => by rw [h]⟩
def zf : Fx := ⟨ByteArray.empty, 0, 0⟩
/-- A function that returns a fixity, and whether there is one. -/
def ORet (o : Option Fx) (W : World) (e : Ending) (w' : World) : Prop := e = .returned (.tuple #[fxV (o.getD zf), .bool o.isSome]) ∧ Below W.heap.size W w'
theorem CellsIn.enc {w : World} {b off : Nat} {fs : List Fx} (h : CellsIn w b off (fxCells fs)) (j : Nat) (hj : j < fs.length) (i : Nat) (v : Value) (hv : (Fx.cells fs[j]!)[i]? = some v) : w.cell? ⟨b, off + j * 3 + i, none⟩ = some v := by
  have hi : i < 3 := by
    have := (List.getElem?_eq_some_iff.1 hv).1
    simpa [Fx.cells] using this
  have := fxCells_get fs j hj i hi
  rw [List.getD_eq_getElem?_getD, List.getElem?_eq_getElem hj, Option.getD_some] at this
  rw [getElem!_pos fs j hj] at hv
  rw [Nat.add_assoc]
  exact h _ _ (this.trans hv)
theorem getD_bang (fs : List Fx) (j : Nat) : fs[j]! = fs.getD j default := by
  rw [List.getD_eq_getElem?_getD, getElem!_def]
  cases fs[j]? <;> rfl
theorem find1_any (op : ByteArray) (B : Nat) (w : World) (hB : B < w.heap.size) (hcell : w.cell? ⟨B, 0, none⟩ = some (.string op)) :
    PredBelow Try.prog 30 #[.pointer (some ⟨B, 0, none⟩)] (fun x => .agg (Fx.cells x).toArray) (fun x => (x.op.toList == op.toList)) w := fun W x hb => by
  have hc : W.cell? ⟨B, 0, none⟩ = some (.string op) := (hb.cell (p := ⟨B, 0, none⟩) hB).trans hcell
  have hBW : B < W.heap.size := Nat.lt_of_lt_of_le hB hb.size
  have hne : B ≠ W.heap.size := by omega
  show Calls Try.prog 30 #[.agg #[.string x.op, .int .i64 x.level, .int .i64 x.side], .pointer (some ⟨B, 0, none⟩)] W _
  go_enter Try.func30, Try.ntmps30
  go_wp2
  all_goals go_ret
  all_goals exact ⟨rfl, hb.alloc hb.size _⟩
/-- Where it stands; -1: nowhere. -/
theorem idx_find (op : ByteArray) (fs : List Fx) : (∃ k, k < fs.length ∧ Lib.idxBy (fun _ (y : Fx) => (y.op.toList == op.toList)) (fs.take fs.length) default = (k : Int) ∧ find fs op = some (fs.getD k default)) ∨ (Lib.idxBy (fun _ (y : Fx) => (y.op.toList == op.toList)) (fs.take fs.length) default = -1 ∧ find fs op = none) := by
  simp only [bytes_beq]
  by_cases h : ∃ k, k < fs.length ∧ (fs.getD k default).op = op
  · obtain ⟨k, ⟨hk, e⟩, hmin⟩ : ∃ k, (k < fs.length ∧ (fs.getD k default).op = op) ∧ ∀ j, j < k → ¬ (j < fs.length ∧ (fs.getD j default).op = op) := by
      obtain ⟨k, hk⟩ := h
      induction k using Nat.strongRecOn with
      | _ k ih =>
        by_cases h' : ∃ j, j < k ∧ (j < fs.length ∧ (fs.getD j default).op = op)
        · obtain ⟨j, hj, hh⟩ := h'
          exact ih j hj hh
        · exact ⟨k, hk, fun j hj hh => h' ⟨j, hj, hh⟩⟩
    have hm : ∀ j, j < k → ¬ (fs.getD j default).op = op := fun j hj e => hmin j hj ⟨by omega, e⟩
    refine .inl ⟨k, hk, ?_, find_at fs op k hk e hm⟩
    exact Lib.idxBy_hit (fun _ (y : Fx) => decide (y.op = op)) fs fs.length k default hk (Nat.le_refl _) (by simpa [getD_bang] using e) (fun j hj => by simpa [getD_bang] using hm j hj)
  · have hm : ∀ j, j < fs.length → ¬ (fs.getD j default).op = op := fun j hj e => h ⟨j, hj, e⟩
    refine .inr ⟨?_, find_none fs op hm⟩
    exact Lib.idxBy_miss (fun _ (y : Fx) => decide (y.op = op)) fs fs.length default (fun j hj => by simpa [getD_bang] using hm j hj)
/-- A block that holds a fixity. -/
def FixBlk (w : World) (g : Nat) (f : Fx) : Prop := w.heap[g]? = some (.cells #[.string f.op, .int .i64 f.level, .int .i64 f.side] 24 (0, 0))
theorem FixBlk.new (w : World) (f : Fx) : FixBlk (w.alloc (.cells #[.string f.op, .int .i64 f.level, .int .i64 f.side] 24)) w.heap.size f := heap_alloc_new w _
theorem FixBlk.below {w w' : World} {g B : Nat} {f : Fx} (h : FixBlk w g f) (b : Below B w w') (hg : g < B) : FixBlk w' g f := (b.block g hg).trans h
theorem FixBlk.cells {w : World} {g : Nat} {f : Fx} (h : FixBlk w g f) : w.cell? ⟨g, 0, none⟩ = some (.string f.op) ∧ w.cell? ⟨g, 1, none⟩ = some (.int .i64 f.level) ∧ w.cell? ⟨g, 2, none⟩ = some (.int .i64 f.side) := by
  unfold FixBlk at h
  refine ⟨?_, ?_, ?_⟩ <;> simp [World.cell?, h]
theorem FixBlk.free {w : World} {g : Nat} {f : Fx} (h : FixBlk w g f) : w.frozen? ⟨g, 0, none⟩ = false ∧ w.frozen? ⟨g, 1, none⟩ = false ∧ w.frozen? ⟨g, 2, none⟩ = false := by
  unfold FixBlk at h
  refine ⟨?_, ?_, ?_⟩ <;> simp [World.frozen?, h]
theorem FixBlk.store {w : World} {g : Nat} {f' : Fx} (h : FixBlk w g f') (f : Fx) : FixBlk (((w.setCell ⟨g, 0, none⟩ (.string f.op)).setCell ⟨g, 1, none⟩ (.int .i64 f.level)).setCell ⟨g, 2, none⟩ (.int .i64 f.side)) g f := by
  unfold FixBlk at h ⊢
  have a := heap_setCell_same w g 0 _ _ (.string f.op) h
  have b := heap_setCell_same _ g 1 _ _ (.int .i64 f.level) a
  have c := heap_setCell_same _ g 2 _ _ (.int .i64 f.side) b
  exact c
theorem FixBlk.lt {w : World} {g : Nat} {f : Fx} (h : FixBlk w g f) : g < w.heap.size := (Array.getElem?_eq_some_iff.1 h).1
theorem IndexFunc_zero (g : Value) (p : Option Addr) (c : Nat) (w : World) : Calls Try.prog 29 #[.slice p 0 c, g] w fun e w' => e = .returned (.int .i64 (-1)) ∧ w = w' := by
  go_enter Try.func29, Try.ntmps29
  go_wp2
  refine wp_loop_rounds 1 ?_
  rw [rounds_succ]
  go_wp2
  go_ret
  exact ⟨rfl, rfl⟩
theorem find_zero (p : Option Addr) (c : Nat) (op : ByteArray) (w : World) : Calls Try.prog 15 #[.slice p 0 c, .string op] w (ORet none w) := by
  go_enter Try.func15, Try.ntmps15
  go_wp2_with fail
  refine (IndexFunc_zero _ _ _ _).mono ?_
  rintro e w1 ⟨rfl, rfl⟩
  go_wp2
  exact bodyPost_ret (v := .tuple #[fxV zf, .bool false]) (by simp [results, Try.results15, go_sem, fxV, zf]; try rfl) rfl ⟨rfl, ((Below.refl _ _).alloc (Nat.le_refl _) _).alloc (by simp) _⟩
set_option maxHeartbeats 1000000 in
theorem find_some (b off c n : Nat) (fs : List Fx) (op : ByteArray) (w : World) (hl : Hid (fs.length = n)) (hn : n ≤ 1000000) (hb : b < w.heap.size) (hc : Hid (CellsIn w b off (fxCells fs))) : Calls Try.prog 15 #[.slice (some ⟨b, off, none⟩) n c, .string op] w (ORet (find fs op) w) := by
  have eg : ∀ args w, (callFunc 30 args).run Try.prog w = .ok (.enter 30 args) w := enters_of Try.func30 (by kernel_rfl) rfl
  have hcon := fun W (hW : Below w.heap.size w W) (hB : w.heap.size < W.heap.size) (hcell : W.cell? ⟨w.heap.size, 0, none⟩ = some (.string op)) => AnyQ.slices_IndexFunc indexLays 3 Try.isAgg24 Try.sizeOf24 Fx.cells (fun _ => rfl) (fun (x : Fx) => (x.op.toList == op.toList)) 30 #[.pointer (some ⟨w.heap.size, 0, none⟩)] eg b off n c fs W
    (find1_any op w.heap.size W hB hcell) (by rw [hl.out]; exact Nat.le_refl _) (by omega) (by have := hW.size; omega) (fun j hj i v hi => (hc.out.below hb hW).enc j hj i v hi)
  change ∀ W, _ → _ → _ → Calls Try.prog 29 _ _ _ at hcon
  have HF := idx_find op fs
  rw [hl.out] at HF
  obtain ⟨r, hr⟩ : ∃ r, r = Lib.idxBy (fun _ (y : Fx) => (y.op.toList == op.toList)) (fs.take n) default := ⟨_, rfl⟩
  rw [← hr] at HF hcon
  have HC := Lib.hid hcon
  clear hcon hr
  rcases HF with ⟨k, hk, rfl, hf⟩ | ⟨rfl, hf⟩
  · have HK := Lib.hid hf
    have hbig : (k : Int) < n := by omega
    have k0 : 0 ≤ (k : Int) := by omega
    clear hf
    go_enter Try.func15, Try.ntmps15
    go_wp2_with fail
    refine (HC.out _ ?h1 ?h2 ?h3).mono ?_
    case h1 => exact ((Below.refl _ _).alloc (Nat.le_refl _) _).alloc (by simp) _
    case h2 => simp; omega
    case h3 => simp
    rintro e w1 ⟨rfl, b1⟩
    have B1 : Hid (Below w.heap.size w w1) := Lib.hid ((((Below.refl _ _).alloc (Nat.le_refl _) _).alloc (by simp) _).trans (b1.mono (by simp; omega)))
    have hz1 : w.heap.size + 2 ≤ w1.heap.size := by have := b1.size; simpa using this
    obtain ⟨q0, q1, q2⟩ := (hc.out.below hb B1.out).fx k (by rw [hl.out]; omega)
    have e0 : FixBlk w1 (w.heap.size + 1) zf := by
      have := FixBlk.new (w.alloc (.cells #[Value.string op] 9)) zf
      rw [show (w.alloc (.cells #[Value.string op] 9)).heap.size = w.heap.size + 1 by simp] at this
      exact this.below b1 (by simp)
    obtain ⟨c0, c1, c2⟩ := e0.cells
    obtain ⟨z0, z1, z2⟩ := e0.free
    obtain ⟨f, hfk⟩ : ∃ f, f = fs.getD k default := ⟨_, rfl⟩
    rw [← hfk] at q0 q1 q2 HK
    obtain ⟨f0, f1, f2⟩ := f
    simp only at q0 q1 q2
    have E0 := Lib.hid e0
    clear b1 e0 hfk
    go_wp2
    rw [HK.out]
    have BX := Lib.hid (((B1.out.setCell (p := ⟨w.heap.size + 1, 0, none⟩) (by simp) (.string f0)).setCell (p := ⟨w.heap.size + 1, 1, none⟩) (by simp) (.int .i64 f1)).setCell (p := ⟨w.heap.size + 1, 2, none⟩) (by simp) (.int .i64 f2))
    obtain ⟨d0, d1, d2⟩ := (E0.out.store ⟨f0, f1, f2⟩).cells
    simp only at d0 d1 d2
    generalize ((w1.setCell ⟨w.heap.size + 1, 0, none⟩ (.string f0)).setCell ⟨w.heap.size + 1, 1, none⟩ (.int .i64 f1)).setCell ⟨w.heap.size + 1, 2, none⟩ (.int .i64 f2) = wz at d0 d1 d2 BX ⊢
    exact bodyPost_ret (v := .tuple #[fxV ⟨f0, f1, f2⟩, .bool true]) (by simp [results, Try.results15, go_sem, fxV, d0, d1, d2]) rfl ⟨rfl, BX.out⟩
  · have HK := Lib.hid hf
    clear hf
    go_enter Try.func15, Try.ntmps15
    go_wp2_with fail
    refine (HC.out _ ?h4 ?h5 ?h6).mono ?_
    case h4 => exact ((Below.refl _ _).alloc (Nat.le_refl _) _).alloc (by simp) _
    case h5 => simp; omega
    case h6 => simp
    rintro e w1 ⟨rfl, b1⟩
    have B1 : Hid (Below w.heap.size w w1) := Lib.hid ((((Below.refl _ _).alloc (Nat.le_refl _) _).alloc (by simp) _).trans (b1.mono (by simp; omega)))
    have e0 : FixBlk w1 (w.heap.size + 1) zf := by
      have := FixBlk.new (w.alloc (.cells #[Value.string op] 9)) zf
      rw [show (w.alloc (.cells #[Value.string op] 9)).heap.size = w.heap.size + 1 by simp] at this
      exact this.below b1 (by simp)
    obtain ⟨c0, c1, c2⟩ := e0.cells
    obtain ⟨z0, z1, z2⟩ := e0.free
    have E0 := Lib.hid e0
    clear b1 e0
    go_wp2
    rw [HK.out]
    have BX := Lib.hid (((B1.out.setCell (p := ⟨w.heap.size + 1, 0, none⟩) (by simp) (.string ByteArray.empty)).setCell (p := ⟨w.heap.size + 1, 1, none⟩) (by simp) (.int .i64 0)).setCell (p := ⟨w.heap.size + 1, 2, none⟩) (by simp) (.int .i64 0))
    obtain ⟨d0, d1, d2⟩ := (E0.out.store zf).cells
    simp only [zf] at d0 d1 d2
    change bodyPost _ _ _ _ _ (((w1.setCell ⟨w.heap.size + 1, 0, none⟩ (.string ByteArray.empty)).setCell ⟨w.heap.size + 1, 1, none⟩ (.int .i64 0)).setCell ⟨w.heap.size + 1, 2, none⟩ (.int .i64 0))
    generalize ((w1.setCell ⟨w.heap.size + 1, 0, none⟩ (.string ByteArray.empty)).setCell ⟨w.heap.size + 1, 1, none⟩ (.int .i64 0)).setCell ⟨w.heap.size + 1, 2, none⟩ (.int .i64 0) = wz at d0 d1 d2 BX ⊢
    exact bodyPost_ret (v := .tuple #[fxV zf, .bool false]) (by simp [results, Try.results15, go_sem, fxV, zf, d0, d1, d2]) rfl ⟨rfl, BX.out⟩
theorem find_fix (v : Value) (fs : List Fx) (op : ByteArray) (w : World) (h : FixAt w v fs) (hn : fs.length ≤ 1000000) : Calls Try.prog 15 #[v, .string op] w (ORet (find fs op) w) := by
  obtain ⟨_, p, c, rfl, _, _, hp⟩ := h
  rcases fs with _ | ⟨x, fs⟩
  · exact find_zero p c op w
  · obtain ⟨b, off, rfl, hb, hc⟩ := hp (by simp)
    exact find_some b off c _ (x :: fs) op w (Lib.hid rfl) hn hb (Lib.hid hc)
theorem rfind_zero (p : Option Addr) (c : Nat) (op : ByteArray) (w : World) : Calls Try.prog 16 #[.slice p 0 c, .string op] w (ORet none w) := by
  go_enter Try.func16, Try.ntmps16
  go_wp2
  refine wp_loop_rounds 1 ?_
  rw [rounds_succ]
  go_wp2
  exact bodyPost_ret (v := .tuple #[fxV zf, .bool false]) (by simp [results, Try.results16, go_sem, fxV, zf]; try rfl) rfl ⟨rfl, (Below.refl _ _).alloc (Nat.le_refl _) _⟩
set_option maxHeartbeats 1000000 in
theorem rfind_some (b off c n : Nat) (fs : List Fx) (op : ByteArray) (w : World) (hl : Hid (fs.length = n)) (hn : n ≤ 1000000) (hb : b < w.heap.size) (hc : Hid (CellsIn w b off (fxCells fs))) : Calls Try.prog 16 #[.slice (some ⟨b, off, none⟩) n c, .string op] w (ORet (find fs op) w) := by
  have AT := Lib.hid (fun k a b c => find_at fs op k a b c)
  have NO := Lib.hid (find_none fs op)
  generalize find fs op = r at *
  have hne : b ≠ w.heap.size := by omega
  go_enter Try.func16, Try.ntmps16
  go_wp2
  go_loop [6] (fun i => ∃ k : Nat, k ≤ n ∧ i = .int .i64 k ∧ ∀ j, j < k → ¬ (fs.getD j default).op = op) (fun i => n - (intOf i).toNat)
  case atStart => exact ⟨0, Nat.zero_le _, rfl, fun j hj => by omega⟩
  case round =>
    obtain ⟨k, hk, rfl, hpre⟩ := hrel
    have HP := Lib.hid hpre
    clear hpre
    by_cases hlt : k < n
    · have bw : Below w.heap.size w (w.alloc (.cells #[.string ByteArray.empty, .int .i64 0, .int .i64 0] 24)) := (Below.refl _ _).alloc (Nat.le_refl _) _
      obtain ⟨q0, q1, q2⟩ := hc.out.fx k (by rw [hl.out]; omega)
      have A1 := Lib.hid (AT.out k (by rw [hl.out]; exact hlt))
      obtain ⟨f, hfk⟩ : ∃ f, f = fs.getD k default := ⟨_, rfl⟩
      rw [← hfk] at q0 q1 q2 A1
      have HK := Lib.hid hfk
      obtain ⟨f0, f1, f2⟩ := f
      simp only at q0 q1 q2
      have k0 : 0 ≤ (k : Int) := by omega
      have k1 : (k : Int) < (n : Int) := by omega
      clear hfk bw
      by_cases g : f0 = op
      · have G := Lib.hid (A1.out g fun j hj => HP.out j hj)
        have g' : (f0.toList == op.toList) = true := by rw [g]; simp
        clear g
        go_wp2
        rw [G.out]
        exact bodyPost_ret (v := .tuple #[fxV ⟨f0, f1, f2⟩, .bool true]) (by simp [results, Try.results16, go_sem, fxV]) rfl ⟨rfl, (Below.refl _ _).alloc (Nat.le_refl _) _⟩
      · have G := Lib.hid g
        have g' : (f0.toList == op.toList) = false := by rw [bytes_beq]; simpa using g
        clear g
        go_wp2
        go_round
        case rel => exact ⟨k + 1, by omega, by go_num, fun j hj => by
          rcases Nat.lt_or_ge j k with h | h
          · exact HP.out j h
          · rw [show j = k by omega, ← HK.out]; exact G.out⟩
        case measure => simp [intOf]; omega
    · have G := Lib.hid (NO.out fun j hj => HP.out j (by rw [hl.out] at hj; omega))
      clear HP
      go_wp2
      rw [G.out]
      exact bodyPost_ret (v := .tuple #[fxV zf, .bool false]) (by simp [results, Try.results16, go_sem, fxV, zf]; try rfl) rfl ⟨rfl, (Below.refl _ _).alloc (Nat.le_refl _) _⟩
theorem rfind_fix (v : Value) (fs : List Fx) (op : ByteArray) (w : World) (h : FixAt w v fs) (hn : fs.length ≤ 1000000) : Calls Try.prog 16 #[v, .string op] w (ORet (find fs op) w) := by
  obtain ⟨_, p, c, rfl, _, _, hp⟩ := h
  rcases fs with _ | ⟨x, fs⟩
  · exact rfind_zero p c op w
  · obtain ⟨b, off, rfl, hb, hc⟩ := hp (by simp)
    exact rfind_some b off c _ (x :: fs) op w (Lib.hid rfl) hn hb (Lib.hid hc)
end Go.Proofs.Ytkmgapieoedelaa
