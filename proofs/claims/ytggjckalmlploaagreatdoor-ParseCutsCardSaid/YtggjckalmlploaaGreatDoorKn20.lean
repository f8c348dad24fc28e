/- Texts of this seat, one behind the other: LxFixF, LxRight, LxWord, LxFixR. -/
import Derived.Test.YtggjckalmlploaaGreatDoorKn19
import Derived.Lib.Hide
import Derived.Test.YtggjckalmlploaaGreatDoorKn17
import Derived.Test.YtggjckalmlploaaGreatDoorKn09
import Derived.Deep.QuietTactic
import Derived.BigQuiet
import Derived.Deep.RegionHeld3
/- The contracts of Find: the program's and the document's. -/
set_option maxRecDepth 100000
namespace Go.Proofs.YtggjckalmlploaaGreatDoor.Lx
open Go.Shelf Go.RowKit Go.Lib Go.Proofs.FixMath

theorem bytes_beq (a b : ByteArray) : (a.toList == b.toList) = decide (a = b) := by
  rw [Bool.eq_iff_iff, beq_iff_eq, decide_eq_true_eq, ByteArray.toList_eq, ByteArray.toList_eq]
  exact ⟨fun h => Go.WideShapes.bytes_inj h, fun h => by rw [h]⟩
def zf : Fx := ⟨ByteArray.empty, 0, 0⟩
/-- A function that returns a fixity, and whether there is one. -/
def ORet (o : Option Fx) (W : World) (e : Ending) (w' : World) : Prop := e = .returned (.tuple #[fxV (o.getD zf), .bool o.isSome]) ∧ Below W.heap.size W w'
theorem CellsIn.enc {w : World} {b off : Nat} {fs : List Fx} (h : CellsIn w b off (fxCells fs)) (j : Nat) (hj : j < fs.length) (i : Nat) (v : Value) (hv : (Fx.cells fs[j]!)[i]? = some v) : w.cell? ⟨b, off + j * 3 + i, none⟩ = some v := by
  have hi : i < 3 := by
    have := (List.getElem?_eq_some_iff.1 hv).1
    simpa [Fx.cells] using this
  have := fxCells_get fs j hj i hi
  rw [List.getD_eq_getElem?_getD, List.getElem?_eq_getElem hj, Option.getD_some] at this
  rw [getElem!_pos fs j hj] at hv
  rw [Nat.add_assoc]
  exact h _ _ (this.trans hv)
theorem getD_bang (fs : List Fx) (j : Nat) : fs[j]! = fs.getD j default := by
  rw [List.getD_eq_getElem?_getD, getElem!_def]
  cases fs[j]? <;> rfl
theorem find1_any (op : ByteArray) (B : Nat) (w : World) (hB : B < w.heap.size) (hcell : w.cell? ⟨B, 0, none⟩ = some (.string op)) :
    PredBelow Tryz.prog 128 #[.pointer (some ⟨B, 0, none⟩)] (fun x => .agg (Fx.cells x).toArray) (fun x => (x.op.toList == op.toList)) w := fun W x hb => by
  have hc : W.cell? ⟨B, 0, none⟩ = some (.string op) := (hb.cell (p := ⟨B, 0, none⟩) hB).trans hcell
  have hBW : B < W.heap.size := Nat.lt_of_lt_of_le hB hb.size
  have hne : B ≠ W.heap.size := by omega
  show Calls Tryz.prog 128 #[.agg #[.string x.op, .int .i64 x.level, .int .i64 x.side], .pointer (some ⟨B, 0, none⟩)] W _
  go_enter Tryz.func128, Tryz.ntmps128
  go_wp2
  all_goals go_ret
  all_goals exact ⟨rfl, hb.alloc hb.size _⟩
/-- Where it stands; -1: nowhere. -/
theorem idx_find (op : ByteArray) (fs : List Fx) : (∃ k, k < fs.length ∧ Lib.idxBy (fun _ (y : Fx) => (y.op.toList == op.toList)) (fs.take fs.length) default = (k : Int) ∧ find fs op = some (fs.getD k default)) ∨ (Lib.idxBy (fun _ (y : Fx) => (y.op.toList == op.toList)) (fs.take fs.length) default = -1 ∧ find fs op = none) := by
  simp only [bytes_beq]
  by_cases h : ∃ k, k < fs.length ∧ (fs.getD k default).op = op
  · obtain ⟨k, ⟨hk, e⟩, hmin⟩ : ∃ k, (k < fs.length ∧ (fs.getD k default).op = op) ∧ ∀ j, j < k → ¬ (j < fs.length ∧ (fs.getD j default).op = op) := by
      obtain ⟨k, hk⟩ := h
      induction k using Nat.strongRecOn with
      | _ k ih =>
        by_cases h' : ∃ j, j < k ∧ (j < fs.length ∧ (fs.getD j default).op = op)
        · obtain ⟨j, hj, hh⟩ := h'
          exact ih j hj hh
        · exact ⟨k, hk, fun j hj hh => h' ⟨j, hj, hh⟩⟩
    have hm : ∀ j, j < k → ¬ (fs.getD j default).op = op := fun j hj e => hmin j hj ⟨by omega, e⟩
    refine .inl ⟨k, hk, ?_, find_at fs op k hk e hm⟩
    exact Lib.idxBy_hit (fun _ (y : Fx) => decide (y.op = op)) fs fs.length k default hk (Nat.le_refl _) (by simpa [getD_bang] using e) (fun j hj => by simpa [getD_bang] using hm j hj)
  · have hm : ∀ j, j < fs.length → ¬ (fs.getD j default).op = op := fun j hj e => h ⟨j, hj, e⟩
    refine .inr ⟨?_, find_none fs op hm⟩
    exact Lib.idxBy_miss (fun _ (y : Fx) => decide (y.op = op)) fs fs.length default (fun j hj => by simpa [getD_bang] using hm j hj)
/-- A block that holds a fixity. -/
def FixBlk (w : World) (g : Nat) (f : Fx) : Prop := w.heap[g]? = some (.cells #[.string f.op, .int .i64 f.level, .int .i64 f.side] 41 (0, 0))
theorem FixBlk.new (w : World) (f : Fx) : FixBlk (w.alloc (.cells #[.string f.op, .int .i64 f.level, .int .i64 f.side] 41)) w.heap.size f := heap_alloc_new w _
theorem FixBlk.below {w w' : World} {g B : Nat} {f : Fx} (h : FixBlk w g f) (b : Below B w w') (hg : g < B) : FixBlk w' g f := (b.block g hg).trans h
theorem FixBlk.cells {w : World} {g : Nat} {f : Fx} (h : FixBlk w g f) : w.cell? ⟨g, 0, none⟩ = some (.string f.op) ∧ w.cell? ⟨g, 1, none⟩ = some (.int .i64 f.level) ∧ w.cell? ⟨g, 2, none⟩ = some (.int .i64 f.side) := by
  unfold FixBlk at h
  refine ⟨?_, ?_, ?_⟩ <;> simp [World.cell?, h]
theorem FixBlk.free {w : World} {g : Nat} {f : Fx} (h : FixBlk w g f) : w.frozen? ⟨g, 0, none⟩ = false ∧ w.frozen? ⟨g, 1, none⟩ = false ∧ w.frozen? ⟨g, 2, none⟩ = false := by
  unfold FixBlk at h
  refine ⟨?_, ?_, ?_⟩ <;> simp [World.frozen?, h]
theorem FixBlk.store {w : World} {g : Nat} {f' : Fx} (h : FixBlk w g f') (f : Fx) : FixBlk (((w.setCell ⟨g, 0, none⟩ (.string f.op)).setCell ⟨g, 1, none⟩ (.int .i64 f.level)).setCell ⟨g, 2, none⟩ (.int .i64 f.side)) g f := by
  unfold FixBlk at h ⊢
  have a := heap_setCell_same w g 0 _ _ (.string f.op) h
  have b := heap_setCell_same _ g 1 _ _ (.int .i64 f.level) a
  have c := heap_setCell_same _ g 2 _ _ (.int .i64 f.side) b
  exact c
theorem FixBlk.lt {w : World} {g : Nat} {f : Fx} (h : FixBlk w g f) : g < w.heap.size := (Array.getElem?_eq_some_iff.1 h).1
theorem IndexFunc_zero (g : Value) (p : Option Addr) (c : Nat) (w : World) : Calls Tryz.prog 40 #[.slice p 0 c, g] w fun e w' => e = .returned (.int .i64 (-1)) ∧ w = w' := by
  go_enter Tryz.func40, Tryz.ntmps40
  go_wp2
  refine wp_loop_rounds 1 ?_
  rw [rounds_succ]
  go_wp2
  go_ret
  exact ⟨rfl, rfl⟩
theorem find_zero (p : Option Addr) (c : Nat) (op : ByteArray) (w : World) : Calls Tryz.prog 98 #[.slice p 0 c, .string op] w (ORet none w) := by
  go_enter Tryz.func98, Tryz.ntmps98
  go_wp2_with fail
  refine (IndexFunc_zero _ _ _ _).mono ?_
  rintro e w1 ⟨rfl, rfl⟩
  go_wp2
  exact bodyPost_ret (v := .tuple #[fxV zf, .bool false]) (by simp [results, Tryz.results98, go_sem, fxV, zf]; try rfl) rfl ⟨rfl, ((Below.refl _ _).alloc (Nat.le_refl _) _).alloc (by simp) _⟩
set_option maxHeartbeats 1000000 in
theorem find_some (b off c n : Nat) (fs : List Fx) (op : ByteArray) (w : World) (hl : Hid (fs.length = n)) (hn : n ≤ 1000000) (hb : b < w.heap.size) (hc : Hid (CellsIn w b off (fxCells fs))) : Calls Tryz.prog 98 #[.slice (some ⟨b, off, none⟩) n c, .string op] w (ORet (find fs op) w) := by
  have eg : ∀ args w, (callFunc 128 args).run Tryz.prog w = .ok (.enter 128 args) w := enters_of Tryz.func128 (by kernel_rfl) rfl
  have hcon := fun W (hW : Below w.heap.size w W) (hB : w.heap.size < W.heap.size) (hcell : W.cell? ⟨w.heap.size, 0, none⟩ = some (.string op)) => AnyQ.slices_IndexFunc indexLays 3 Tryz.isAgg41 Tryz.sizeOf41 Fx.cells (fun _ => rfl) (fun (x : Fx) => (x.op.toList == op.toList)) 128 #[.pointer (some ⟨w.heap.size, 0, none⟩)] eg b off n c fs W
    (find1_any op w.heap.size W hB hcell) (by rw [hl.out]; exact Nat.le_refl _) (by omega) (by have := hW.size; omega) (fun j hj i v hi => (hc.out.below hb hW).enc j hj i v hi)
  change ∀ W, _ → _ → _ → Calls Tryz.prog 40 _ _ _ at hcon
  have HF := idx_find op fs
  rw [hl.out] at HF
  obtain ⟨r, hr⟩ : ∃ r, r = Lib.idxBy (fun _ (y : Fx) => (y.op.toList == op.toList)) (fs.take n) default := ⟨_, rfl⟩
  rw [← hr] at HF hcon
  have HC := Lib.hid hcon
  clear hcon hr
  rcases HF with ⟨k, hk, rfl, hf⟩ | ⟨rfl, hf⟩
  · have HK := Lib.hid hf
    have hbig : (k : Int) < n := by omega
    have k0 : 0 ≤ (k : Int) := by omega
    clear hf
    go_enter Tryz.func98, Tryz.ntmps98
    go_wp2_with fail
    refine (HC.out _ ?h1 ?h2 ?h3).mono ?_
    case h1 => exact ((Below.refl _ _).alloc (Nat.le_refl _) _).alloc (by simp) _
    case h2 => simp; omega
    case h3 => simp
    rintro e w1 ⟨rfl, b1⟩
    have B1 : Hid (Below w.heap.size w w1) := Lib.hid ((((Below.refl _ _).alloc (Nat.le_refl _) _).alloc (by simp) _).trans (b1.mono (by simp; omega)))
    have hz1 : w.heap.size + 2 ≤ w1.heap.size := by have := b1.size; simpa using this
    obtain ⟨q0, q1, q2⟩ := (hc.out.below hb B1.out).fx k (by rw [hl.out]; omega)
    have e0 : FixBlk w1 (w.heap.size + 1) zf := by
      have := FixBlk.new (w.alloc (.cells #[Value.string op] 9)) zf
      rw [show (w.alloc (.cells #[Value.string op] 9)).heap.size = w.heap.size + 1 by simp] at this
      exact this.below b1 (by simp)
    obtain ⟨c0, c1, c2⟩ := e0.cells
    obtain ⟨z0, z1, z2⟩ := e0.free
    obtain ⟨f, hfk⟩ : ∃ f, f = fs.getD k default := ⟨_, rfl⟩
    rw [← hfk] at q0 q1 q2 HK
    obtain ⟨f0, f1, f2⟩ := f
    simp only at q0 q1 q2
    have E0 := Lib.hid e0
    clear b1 e0 hfk
    go_wp2
    rw [HK.out]
    have BX := Lib.hid (((B1.out.setCell (p := ⟨w.heap.size + 1, 0, none⟩) (by simp) (.string f0)).setCell (p := ⟨w.heap.size + 1, 1, none⟩) (by simp) (.int .i64 f1)).setCell (p := ⟨w.heap.size + 1, 2, none⟩) (by simp) (.int .i64 f2))
    obtain ⟨d0, d1, d2⟩ := (E0.out.store ⟨f0, f1, f2⟩).cells
    simp only at d0 d1 d2
    generalize ((w1.setCell ⟨w.heap.size + 1, 0, none⟩ (.string f0)).setCell ⟨w.heap.size + 1, 1, none⟩ (.int .i64 f1)).setCell ⟨w.heap.size + 1, 2, none⟩ (.int .i64 f2) = wz at d0 d1 d2 BX ⊢
    exact bodyPost_ret (v := .tuple #[fxV ⟨f0, f1, f2⟩, .bool true]) (by simp [results, Tryz.results98, go_sem, fxV, d0, d1, d2]) rfl ⟨rfl, BX.out⟩
  · have HK := Lib.hid hf
    clear hf
    go_enter Tryz.func98, Tryz.ntmps98
    go_wp2_with fail
    refine (HC.out _ ?h4 ?h5 ?h6).mono ?_
    case h4 => exact ((Below.refl _ _).alloc (Nat.le_refl _) _).alloc (by simp) _
    case h5 => simp; omega
    case h6 => simp
    rintro e w1 ⟨rfl, b1⟩
    have B1 : Hid (Below w.heap.size w w1) := Lib.hid ((((Below.refl _ _).alloc (Nat.le_refl _) _).alloc (by simp) _).trans (b1.mono (by simp; omega)))
    have e0 : FixBlk w1 (w.heap.size + 1) zf := by
      have := FixBlk.new (w.alloc (.cells #[Value.string op] 9)) zf
      rw [show (w.alloc (.cells #[Value.string op] 9)).heap.size = w.heap.size + 1 by simp] at this
      exact this.below b1 (by simp)
    obtain ⟨c0, c1, c2⟩ := e0.cells
    obtain ⟨z0, z1, z2⟩ := e0.free
    have E0 := Lib.hid e0
    clear b1 e0
    go_wp2
    rw [HK.out]
    have BX := Lib.hid (((B1.out.setCell (p := ⟨w.heap.size + 1, 0, none⟩) (by simp) (.string ByteArray.empty)).setCell (p := ⟨w.heap.size + 1, 1, none⟩) (by simp) (.int .i64 0)).setCell (p := ⟨w.heap.size + 1, 2, none⟩) (by simp) (.int .i64 0))
    obtain ⟨d0, d1, d2⟩ := (E0.out.store zf).cells
    simp only [zf] at d0 d1 d2
    change bodyPost _ _ _ _ _ (((w1.setCell ⟨w.heap.size + 1, 0, none⟩ (.string ByteArray.empty)).setCell ⟨w.heap.size + 1, 1, none⟩ (.int .i64 0)).setCell ⟨w.heap.size + 1, 2, none⟩ (.int .i64 0))
    generalize ((w1.setCell ⟨w.heap.size + 1, 0, none⟩ (.string ByteArray.empty)).setCell ⟨w.heap.size + 1, 1, none⟩ (.int .i64 0)).setCell ⟨w.heap.size + 1, 2, none⟩ (.int .i64 0) = wz at d0 d1 d2 BX ⊢
    exact bodyPost_ret (v := .tuple #[fxV zf, .bool false]) (by simp [results, Tryz.results98, go_sem, fxV, zf, d0, d1, d2]) rfl ⟨rfl, BX.out⟩
theorem find_fix (v : Value) (fs : List Fx) (op : ByteArray) (w : World) (h : FixAt w v fs) (hn : fs.length ≤ 1000000) : Calls Tryz.prog 98 #[v, .string op] w (ORet (find fs op) w) := by
  obtain ⟨_, p, c, rfl, _, _, hp⟩ := h
  rcases fs with _ | ⟨x, fs⟩
  · exact find_zero p c op w
  · obtain ⟨b, off, rfl, hb, hc⟩ := hp (by simp)
    exact find_some b off c _ (x :: fs) op w (Lib.hid rfl) hn hb (Lib.hid hc)
end Go.Proofs.YtggjckalmlploaaGreatDoor.Lx
/- The contract of Right, all of it; and of Word. -/
set_option maxRecDepth 100000
namespace Go.Proofs.YtggjckalmlploaaGreatDoor.Lx
open Go.RowKit Go.Proofs.LexMath

theorem isEmpty_of {s : ByteArray} {b : Bool} (h : s.data.toList.isEmpty = b) : s.toList.isEmpty = b := by rw [ByteArray.toList_eq]; exact h
set_option maxRecDepth 100000 in
set_option maxHeartbeats 1000000 in
theorem right_3 (s : ByteArray) (n a : Int) (w : World) (ha : 0 ≤ a) (x : Bool) (hx : Hid (s.data.toList.isEmpty = x)) :
    Calls Tryz.prog 39 #[tokV ⟨3, s, n, a⟩] w (RB (x && decide (wr n = n)) w) := by
  unfold tokV
  have ha0 : decide (a < 0) = false := by simpa using ha
  have C := fun W => wrap_any n W
  have hw : (wr n == n) = decide (wr n = n) := by rw [Bool.eq_iff_iff]; simp
  generalize decide (wr n = n) = y at *
  generalize wr n = m at *
  have CC := Lib.hid C
  clear C
  cases x with
  | true =>
    have e : s.toList = [] := by rw [ByteArray.toList_eq]; exact List.isEmpty_iff.1 hx.out
    clear hx
    cases y
    all_goals
      go_enter Tryz.func39, Tryz.ntmps39
      go_upto_region 9 with (fail)
      go_quiet ((go_at_call 75; first | exact quiet_left (CC.out _) | exact quiet_same_left (CC.out _)))
    all_goals go_wp2
    all_goals go_ret
    all_goals exact ⟨rfl, below_drewN ((Below.refl _ _).alloc (Nat.le_refl _) _) _⟩
  | false =>
    have e : s.toList.isEmpty = false := isEmpty_of hx.out
    have e2 : ¬ s.toList = [] := by intro h; rw [h] at e; cases e
    clear hx
    go_enter Tryz.func39, Tryz.ntmps39
    go_upto_region 9 with (fail)
    go_quiet ((go_at_call 75; first | exact quiet_left (CC.out _) | exact quiet_same_left (CC.out _)))
    all_goals go_wp2
    all_goals go_ret
    all_goals exact ⟨rfl, below_drewN ((Below.refl _ _).alloc (Nat.le_refl _) _) _⟩
set_option maxRecDepth 100000 in
theorem right_4 (s : ByteArray) (a : Int) (w : World) (ha : 0 ≤ a) (hs : s.size ≤ 100000000) :
    Calls Tryz.prog 39 #[tokV ⟨4, s, 0, a⟩] w (RB (decide (s.size ≤ 200)) w) := by
  unfold tokV
  have ha0 : decide (a < 0) = false := by simpa using ha
  have hd : decide (s.size ≤ 200) = decide ((s.size : Int) ≤ 200) := by rw [Bool.eq_iff_iff]; simp only [decide_eq_true_eq]; omega
  rw [hd]
  clear hd
  go_enter Tryz.func39, Tryz.ntmps39
  go_wp2
  go_ret
  exact ⟨rfl, (Below.refl _ _).alloc (Nat.le_refl _) _⟩
set_option maxRecDepth 100000 in
theorem right_6 (s : ByteArray) (a : Int) (w : World) (ha : 0 ≤ a) :
    Calls Tryz.prog 39 #[tokV ⟨6, s, 0, a⟩] w (RB (key s.data.toList) w) := by
  unfold tokV
  have ha0 : decide (a < 0) = false := by simpa using ha
  have K := fun W => key_any s W
  generalize key s.data.toList = x at *
  have KK := Lib.hid K
  clear K
  go_enter Tryz.func39, Tryz.ntmps39
  go_wp2_with fail
  refine (KK.out _).mono ?_
  rintro e w1 ⟨rfl, rfl⟩
  go_wp2
  go_ret
  exact ⟨rfl, (Below.refl _ _).alloc (Nat.le_refl _) _⟩
set_option maxRecDepth 100000 in
theorem right_0 (k : Int) (s : ByteArray) (a : Int) (w : World) (ha : 0 ≤ a) (h1 : (k == 1) = false) (h2 : (k == 2) = false) (h3 : (k == 3) = false) (h4 : (k == 4) = false) (h5 : (k == 5) = false) (h6 : (k == 6) = false) :
    Calls Tryz.prog 39 #[tokV ⟨k, s, 0, a⟩] w (RB false w) := by
  unfold tokV
  have ha0 : decide (a < 0) = false := by simpa using ha
  have h3' : (k != 3) = true := by simpa using h3
  go_enter Tryz.func39, Tryz.ntmps39
  go_wp2
  go_ret
  exact ⟨rfl, (Below.refl _ _).alloc (Nat.le_refl _) _⟩
set_option maxRecDepth 100000 in
theorem right_bad (k : Int) (s : ByteArray) (n a : Int) (w : World) (h : a < 0 ∨ (0 ≤ a ∧ ¬ k = 3 ∧ ¬ n = 0)) :
    Calls Tryz.prog 39 #[tokV ⟨k, s, n, a⟩] w (RB false w) := by
  unfold tokV
  rcases h with h | ⟨h1, h2, h3⟩
  · have ha0 : decide (a < 0) = true := by simpa using h
    go_enter Tryz.func39, Tryz.ntmps39
    go_wp2
    go_ret
    exact ⟨rfl, (Below.refl _ _).alloc (Nat.le_refl _) _⟩
  · have ha0 : decide (a < 0) = false := by simpa using h1
    have h3' : (k != 3) = true := by simpa using h2
    have h4' : (n != 0) = true := by simpa using h3
    clear h2 h3
    go_enter Tryz.func39, Tryz.ntmps39
    go_wp2
    go_ret
    exact ⟨rfl, (Below.refl _ _).alloc (Nat.le_refl _) _⟩
theorem right_any (t : Tok) (w : World) (hs : t.text.size ≤ 100000000) : Calls Tryz.prog 39 #[tokV t] w (RB (rightB t) w) := by
  by_cases h0 : 0 ≤ t.at_
  · by_cases h1 : t.kind = 3 ∨ t.num = 0
    · rw [right_kind t h0 h1]
      obtain ⟨k, s, n, a⟩ := t
      simp only at h0 h1 hs ⊢
      by_cases g3 : k = 3
      · subst g3
        exact right_3 s n a w h0 _ (Lib.hid rfl)
      · obtain rfl : n = 0 := by omega
        by_cases g1 : k = 1
        · subst g1; exact right_1 s a w hs h0 _ _ (Lib.hid rfl) (Lib.hid rfl)
        · by_cases g2 : k = 2
          · subst g2; exact right_2 s a w hs h0 _ (Lib.hid rfl)
          · by_cases g4 : k = 4
            · subst g4; exact right_4 s a w h0 hs
            · by_cases g5 : k = 5
              · subst g5; exact right_5 s a w hs h0 _ _ (Lib.hid rfl) (Lib.hid rfl)
              · by_cases g6 : k = 6
                · subst g6; exact right_6 s a w h0
                · have e : kindB k s 0 = false := by simp [kindB, g1, g2, g3, g4, g5, g6]
                  rw [e]
                  exact right_0 k s a w h0 (by simpa using g1) (by simpa using g2) (by simpa using g3) (by simpa using g4) (by simpa using g5) (by simpa using g6)
    · rw [right_num t h1]
      exact right_bad t.kind t.text t.num t.at_ w (.inr ⟨h0, fun h => h1 (.inl h), fun h => h1 (.inr h)⟩)
  · rw [right_at t h0]
    exact right_bad t.kind t.text t.num t.at_ w (.inl (by omega))
end Go.Proofs.YtggjckalmlploaaGreatDoor.Lx
/- The contract of Word: how a token is written. -/
namespace Go.Proofs.YtggjckalmlploaaGreatDoor.Lx
open Go.RowKit Go.Proofs.LexMath

def SRet (s : ByteArray) (W : World) (e : Ending) (w' : World) : Prop := e = .returned (.string s) ∧ Below W.heap.size W w'
end Go.Proofs.YtggjckalmlploaaGreatDoor.Lx
/- The contracts of Right: the program's and the document's. -/
set_option maxRecDepth 100000
namespace Go.Proofs.YtggjckalmlploaaGreatDoor.Lx
open Go.Shelf Go.RowKit Go.Lib Go.Proofs.FixMath Go.Proofs.LexMath

/-- Whether a text is an operator. -/
def opB (s : ByteArray) : Bool := isw opr opr s.data.toList && !key s.data.toList
/-- Whether a fixity may be. -/
def rightF (f : Fx) : Bool := opB f.op && (decide (0 ≤ f.level) && decide (f.level ≤ 9)) && (decide (-1 ≤ f.side) && decide (f.side ≤ 1))
theorem opB_any (s : ByteArray) (w : World) (hs : s.size ≤ 100000000) : Calls Tryz.prog 39 #[.agg #[.int .i64 5, .string s, .int .i64 0, .int .i64 0]] w (RB (opB s) w) :=
  right_5 s 0 w hs (Int.le_refl _) _ _ (Lib.hid rfl) (Lib.hid rfl)
theorem fine_of {f : Fx} (h : rightF f = true) : fine f := by
  simp only [rightF, Bool.and_eq_true, decide_eq_true_eq] at h
  exact ⟨h.1.2.1, h.1.2.2, by omega⟩
set_option maxHeartbeats 1000000 in
theorem fright_wide (f : Fx) (w : World) (hs : f.op.size ≤ 100000000) : Calls Tryz.prog 21 #[fxV f] w (RB (rightF f) w) := by
  have C := Lib.hid (fun W => opB_any f.op W hs)
  unfold rightF fxV
  obtain ⟨s, l, d⟩ := f
  simp only at C ⊢
  generalize opB s = x at *
  clear hs
  by_cases h1 : 0 ≤ l
  · by_cases h2 : l ≤ 9
    · by_cases h3 : -1 ≤ d
      · by_cases h4 : d ≤ 1
        · have e : (x && (decide (0 ≤ l) && decide (l ≤ 9)) && (decide (-1 ≤ d) && decide (d ≤ 1))) = x := by simp [h1, h2, h3, h4]
          rw [e]
          go_enter Tryz.func21, Tryz.ntmps21
          go_wp2_with fail
          refine (C.out _).mono ?_
          rintro e w1 ⟨rfl, b1⟩
          have B1 := Lib.hid b1
          clear b1
          go_wp2
          go_ret
          exact ⟨rfl, ((Below.refl _ _).alloc (Nat.le_refl _) _).trans (B1.out.mono (by simp))⟩
        · have e : (x && (decide (0 ≤ l) && decide (l ≤ 9)) && (decide (-1 ≤ d) && decide (d ≤ 1))) = false := by simp [h4]
          rw [e]
          go_enter Tryz.func21, Tryz.ntmps21
          go_wp2
          go_ret
          exact ⟨rfl, (Below.refl _ _).alloc (Nat.le_refl _) _⟩
      · have e : (x && (decide (0 ≤ l) && decide (l ≤ 9)) && (decide (-1 ≤ d) && decide (d ≤ 1))) = false := by simp [h3]
        rw [e]
        go_enter Tryz.func21, Tryz.ntmps21
        go_wp2
        go_ret
        exact ⟨rfl, (Below.refl _ _).alloc (Nat.le_refl _) _⟩
    · have e : (x && (decide (0 ≤ l) && decide (l ≤ 9)) && (decide (-1 ≤ d) && decide (d ≤ 1))) = false := by simp [h2]
      rw [e]
      go_enter Tryz.func21, Tryz.ntmps21
      go_wp2
      go_ret
      exact ⟨rfl, (Below.refl _ _).alloc (Nat.le_refl _) _⟩
  · have e : (x && (decide (0 ≤ l) && decide (l ≤ 9)) && (decide (-1 ≤ d) && decide (d ≤ 1))) = false := by simp [h1]
    rw [e]
    go_enter Tryz.func21, Tryz.ntmps21
    go_wp2
    go_ret
    exact ⟨rfl, (Below.refl _ _).alloc (Nat.le_refl _) _⟩
set_option maxHeartbeats 1000000 in
theorem fright_any (f : Fx) (w : World) (hs : f.op.size ≤ 100000000) : Calls Tryz.prog 21 #[fxV f] w (RB (rightF f) w) := fright_wide f w (by omega)
end Go.Proofs.YtggjckalmlploaaGreatDoor.Lx
