/- Texts of this seat, one behind the other: LxSpan, LxStep, LxChars. -/
import Derived.Test.YtggjckalmlploaaGreatDoorKn10
import Derived.Lib.TrimUEq
import Derived.Test.YtggjckalmlploaaGreatDoorKn09
import Derived.Deep.RegionLaw
/- The contract of span: how far the characters of a class go on from a place. -/
set_option maxRecDepth 100000
namespace Go.Proofs.YtggjckalmlploaaGreatDoor.Lx
open Go.RowKit Go.Proofs.LexMath

/-- A class that takes all characters of several bytes for the same as one byte from 128 on. -/
def Wide (p : Int → Bool) : Prop := (∀ r, 128 ≤ r → p r = true) ∨ (∀ r, 128 ≤ r → p r = false)
theorem high_bytes (s : ByteArray) (pos : Nat) (h : pos < s.size) (ha : 128 ≤ (s[pos]'h).toNat) :
    pos + (Utf8.decode s pos).2 ≤ s.size ∧ ∀ j, j < (Utf8.decode s pos).2 → 128 ≤ (s.get! (pos + j)).toNat := by
  have hn : ¬ (s[pos]'h).toNat < 128 := by omega
  have h0 : 128 ≤ (s.get! (pos + 0)).toNat := by rw [get_at s pos h]; exact ha
  have one : ∀ j, j < 1 → 128 ≤ (s.get! (pos + j)).toNat := by intro j hj; (obtain rfl : j = 0 := (by omega)); exact h0
  simp only [Utf8.decode, get_at s pos h, hn, if_false]
  split
  · rename_i h2
    simp only [Bool.and_eq_true, decide_eq_true_eq, beq_iff_eq] at h2
    split
    · refine ⟨by simp; omega, fun j hj => ?_⟩
      simp only at hj
      have : j = 0 ∨ j = 1 := by omega
      rcases this with rfl | rfl
      · exact h0
      · omega
    · exact ⟨by simp; omega, one⟩
  · split
    · rename_i h2
      simp only [Bool.and_eq_true, decide_eq_true_eq, beq_iff_eq] at h2
      split
      · refine ⟨by simp; omega, fun j hj => ?_⟩
        simp only at hj
        have : j = 0 ∨ j = 1 ∨ j = 2 := by omega
        rcases this with rfl | rfl | rfl
        · exact h0
        · omega
        · omega
      · exact ⟨by simp; omega, one⟩
    · split
      · rename_i h2
        simp only [Bool.and_eq_true, decide_eq_true_eq, beq_iff_eq] at h2
        split
        · refine ⟨by simp; omega, fun j hj => ?_⟩
          simp only at hj
          have : j = 0 ∨ j = 1 ∨ j = 2 ∨ j = 3 := by omega
          rcases this with rfl | rfl | rfl | rfl
          · exact h0
          · omega
          · omega
          · omega
        · exact ⟨by simp; omega, one⟩
      · exact ⟨by simp; omega, one⟩
theorem run_drop (p : Int → Bool) (l : Bs) (k : Nat) (h : ∀ c ∈ l.take k, p (iv c) = true) (hk : k ≤ l.length) : run p l = k + run p (l.drop k) := by
  induction k generalizing l with
  | zero => simp
  | succ k ih =>
    cases l with
    | nil => simp at hk
    | cons c l =>
      rw [List.take_succ_cons] at h
      rw [run_yes p c l (h c (by simp)), ih l (fun d hd => h d (by simp [hd])) (by simpa using hk), List.drop_succ_cons]
      omega
theorem drop_at (s : ByteArray) (pos : Nat) (h : pos < s.size) : s.data.toList.drop pos = s[pos] :: s.data.toList.drop (pos + 1) := List.drop_eq_getElem_cons (show pos < s.data.toList.length from h)
theorem get_bang (s : ByteArray) (k : Nat) (h : k < s.size) : s.get! k = s[k] := by have := get_at s k h; simpa using this
/-- One character on. -/
theorem run_rune (p : Int → Bool) (hw : Wide p) (s : ByteArray) (pos : Nat) (h : pos < s.size) (hp : p ((Utf8.decode s pos).1 : Nat) = true) :
    pos + (Utf8.decode s pos).2 ≤ s.size ∧ run p (s.data.toList.drop pos) = (Utf8.decode s pos).2 + run p (s.data.toList.drop (pos + (Utf8.decode s pos).2)) := by
  by_cases ha : (s[pos]'h).toNat < 128
  · rw [decode_ascii s pos h ha] at hp ⊢
    refine ⟨h, ?_⟩
    rw [drop_at s pos h, run_yes p _ _ hp]
    exact Nat.add_comm _ _
  · have ha' : 128 ≤ (s[pos]'h).toNat := by omega
    have hi := decode_high s pos h ha'
    obtain ⟨h1, h2⟩ := high_bytes s pos h ha'
    generalize (Utf8.decode s pos).2 = k at *
    generalize (Utf8.decode s pos).1 = r at *
    refine ⟨h1, ?_⟩
    have hall : ∀ x : Int, 128 ≤ x → p x = true := by
      rcases hw with hw | hw
      · exact hw
      · rw [hw r (by omega)] at hp; cases hp
    rw [run_drop p (s.data.toList.drop pos) k ?_ (by rw [List.length_drop]; show k ≤ s.data.size - pos; have : s.size = s.data.size := rfl; omega), List.drop_drop]
    intro c hc
    obtain ⟨j, hj, e⟩ := List.getElem_of_mem hc
    rw [List.length_take] at hj
    rw [List.getElem_take, List.getElem_drop] at e
    have hj' : pos + j < s.size := by omega
    have := h2 j (by omega)
    rw [get_bang s _ hj'] at this
    have e' : s[pos + j] = c := e
    rw [e'] at this
    exact hall _ (by unfold iv; omega)
theorem run_stop_rune (p : Int → Bool) (hw : Wide p) (s : ByteArray) (pos : Nat) (h : pos < s.size) (hp : p ((Utf8.decode s pos).1 : Nat) = false) : run p (s.data.toList.drop pos) = 0 := by
  rw [drop_at s pos h]
  apply run_no
  by_cases ha : (s[pos]'h).toNat < 128
  · rw [decode_ascii s pos h ha] at hp
    exact hp
  · have ha' : 128 ≤ (s[pos]'h).toNat := by omega
    have hi := decode_high s pos h ha'
    rcases hw with hw | hw
    · rw [hw _ (by omega)] at hp; cases hp
    · exact hw _ (by unfold iv; omega)
theorem span_form (s : ByteArray) (at_ : Nat) :
    (s.extract at_ s.size).data.toList = s.data.toList.drop at_ ∧ (s.extract at_ s.size).size = s.size - at_ := by
  have h1 : (s.extract at_ s.size).data.toList = s.data.toList.drop at_ := by
    rw [Go.Lib.extract_data, List.take_of_length_le]
    rw [List.length_drop]
    show s.data.size - at_ ≤ _
    have : s.size = s.data.size := rfl
    omega
  refine ⟨h1, ?_⟩
  have e : (s.extract at_ s.size).size = (s.extract at_ s.size).data.toList.length := rfl
  rw [e, h1, List.length_drop]
  rfl
theorem iter_block (w : World) (s : ByteArray) (pos : Nat) : (w.iter s pos).heap[w.heap.size]? = some (.stringIter s pos) := by
  simp [World.iter_heap]
/-- How the walk over a string stands: its iterator lies in a block of its own. -/
def Goes (w : World) (d : ByteArray) (pos : Nat) (wr : World) : Prop := wr.heap[w.heap.size]? = some (.stringIter d pos) ∧ Below w.heap.size w wr
theorem Goes.size {w wr : World} {d : ByteArray} {pos : Nat} (h : Goes w d pos wr) : w.heap.size < wr.heap.size := (Array.getElem?_eq_some_iff.1 h.1).1
theorem Goes.on {w wr : World} {d : ByteArray} {pos : Nat} (h : Goes w d pos wr) (q : Nat) : Goes w d q (wr.iterAt w.heap.size d q) :=
  ⟨Go.Lib.iterAt_heap wr _ d pos q h.1, Go.Lib.below_iterAt h.2 (Nat.le_refl _) d q⟩
theorem Goes.below {w wr w1 : World} {d : ByteArray} {pos : Nat} (h : Goes w d pos wr) (b : Below wr.heap.size wr w1) : Goes w d pos w1 :=
  ⟨(b.block _ h.size).trans h.1, h.2.trans (b.mono h.2.size)⟩
theorem iterPos_of {w wr : World} {d : ByteArray} {pos : Nat} (h : Goes w d pos wr) : wr.iterPos w.heap.size = pos := by
  simp [World.iterPos, h.1]
/-- The contract of span. -/
theorem span_any (s : ByteArray) (at_ : Nat) (v : Value) (p : Int → Bool) (w : World) (hat : at_ ≤ s.size) (hs : s.size ≤ 1000000000) (hw : Wide p) (hv : Cls w v p) :
    Calls Tryz.prog 45 #[.string s, .int .i64 at_, v] w fun e w' => e = .returned (.int .i64 ((at_ + run p (s.data.toList.drop at_) : Nat) : Int)) ∧ Below w.heap.size w w' := by
  obtain ⟨f, caps, rfl, hf, hcl⟩ := hv
  have HW := Lib.hid hf
  have HC := Lib.hid hcl
  clear hf hcl
  obtain ⟨hx1, hx2⟩ := span_form s at_
  go_enter Tryz.func45, Tryz.ntmps45
  go_wp2
  generalize s.extract at_ s.size = d at *
  have HX := Lib.hid hx1
  have HY := Lib.hid hx2
  have hd1 : d.size ≤ s.size - at_ := by omega
  clear hx1 hx2
  have RUN := Lib.hid (fun pos (h : pos < d.size) => run_rune p hw d pos h)
  have STOP := Lib.hid (fun pos (h : pos < d.size) => run_stop_rune p hw d pos h)
  clear hw
  go_loopw [8] (fun _ wr => ∃ pos : Nat, pos ≤ d.size ∧ Goes w d pos wr ∧ run p (s.data.toList.drop at_) = pos + run p (d.data.toList.drop pos)) (fun _ wr => d.size - wr.iterPos w.heap.size)
  case atStart => exact ⟨0, Nat.zero_le _, ⟨iter_block _ _ _, below_iter _ _ _⟩, by rw [HX.out]; simp⟩
  case round =>
    obtain ⟨wo, hwo⟩ : ∃ wo : World, wo = wr := ⟨_, rfl⟩
    subst hwo
    obtain ⟨pos, hps, hG, hrun⟩ := hrel
    have HG := Lib.hid hG
    have HR := Lib.hid hrun
    clear hrun hG
    by_cases hp : pos < d.size
    · have hnx : ∀ ty, (Instr.next (.pointer (some ⟨w.heap.size, 0, none⟩)) true ty).run Tryz.prog wo = _ := fun ty => Go.Lib.run_next_any_at wo w.heap.size d pos ty HG.out.1 hp
      have h1 := RUN.out pos hp
      have h2 := STOP.out pos hp
      have hr := decode_le d pos
      have hwp := width_pos d pos hp
      have GO := Lib.hid (HG.out.on (pos + (Utf8.decode d pos).2))
      generalize hrr : (Utf8.decode d pos).1 = r at *
      generalize hww : (Utf8.decode d pos).2 = wd at *
      clear hrr hww
      cases hpr : p (r : Int) with
      | true =>
        have H1 := Lib.hid (h1 hpr)
        have HL := HC.out r _ GO.out.2
        rw [hpr] at HL
        have HL := Lib.hid HL
        clear h1 h2 hpr
        go_wp2_with ((refine wpList_call_slot (o := ⟨some 19, _, _, _, _, _⟩) rfl 17 _ _ rfl f caps rfl HW.out (#[.int .i32 r] ++ caps) (by simp [go_sem]) ?_; refine HL.out.mono ?_; rintro e w1 ⟨rfl, hs⟩; refine ⟨_, rfl, ?_⟩; simp only [Act.put, List.setIfInBounds_toArray, List.set_cons_succ, List.set_cons_zero]; have HS := Lib.hid hs; clear hs))
        have g1 := GO.out.below HS.out
        go_roundw
        case rel => exact ⟨pos + wd, H1.out.1, g1, by rw [HR.out, H1.out.2]; omega⟩
        case measure => rw [iterPos_of HG.out, iterPos_of g1]; omega
      | false =>
        have H2 := Lib.hid (h2 hpr)
        have HL := HC.out r _ GO.out.2
        rw [hpr] at HL
        have HL := Lib.hid HL
        clear h1 h2 hpr
        go_wp2_with ((refine wpList_call_slot (o := ⟨some 19, _, _, _, _, _⟩) rfl 17 _ _ rfl f caps rfl HW.out (#[.int .i32 r] ++ caps) (by simp [go_sem]) ?_; refine HL.out.mono ?_; rintro e w1 ⟨rfl, hs⟩; refine ⟨_, rfl, ?_⟩; simp only [Act.put, List.setIfInBounds_toArray, List.set_cons_succ, List.set_cons_zero]; have HS := Lib.hid hs; clear hs))
        go_ret
        refine ⟨ret_int ?_, (GO.out.below HS.out).2⟩
        rw [HR.out, H2.out]
        omega
    · have hnx : ∀ ty, (Instr.next (.pointer (some ⟨w.heap.size, 0, none⟩)) true ty).run Tryz.prog wo = _ := fun ty => Go.Lib.run_next_end_at wo w.heap.size d pos ty HG.out.1 hp
      go_wp2
      go_ret
      refine ⟨ret_int ?_, HG.out.2⟩
      have h3 : pos = d.size := by omega
      have h4 : run p (d.data.toList.drop pos) = 0 := by rw [List.drop_eq_nil_of_le (by rw [h3]; exact Nat.le_refl _), run_nil]
      rw [HR.out, h4]
      have := HY.out
      omega
end Go.Proofs.YtggjckalmlploaaGreatDoor.Lx
/- Calls as steps of a region that draws its order, as laws for the walk. -/
namespace Go
section
variable {P : Program} {w : World} {ops : Array Oper} {o : Oper} {a : Act} {K : Act → World → Prop} {Q : Exit → Act → World → Prop} {E : Prop}
theorem step_call_slot (hgd : o.guard = none) (t : Tmp) (xs : Array Operand) (ats : Array TypeId)
    (ho : o.op = .call { callee := .value (.tmp t), args := xs, argTypes := ats }) (f : FuncId) (cap : Array Value) (hv : a.eval (.tmp t) = .func (.func f) #[] cap) (hf : ∀ vs w, (callFunc f vs).run P w = .ok (.enter f vs) w) (vs : Array Value) (hx : xs.map a.eval ++ cap = vs)
    (h : Calls P f vs w fun e w' => ∃ v, e = .returned v ∧ K (a.put o.dst v) w') : if Region.wanted o (yielded ops a.tmps) = true then Oper.wp P o a w K Q else E := by
  have hw : Region.wanted o (yielded ops a.tmps) = true := by simp [Region.wanted, hgd]
  rw [if_pos hw]
  subst hx
  unfold Oper.wp
  have e : execOp a.eval o = callFunc f (xs.map a.eval ++ cap) := by
    obtain ⟨dst, op, ty, pos, after, guard⟩ := o
    simp only at ho
    subst ho
    simp [execOp, resolve, invoke, hv, Deferred.ofValue]
  rw [e, hf, Oper.upon_enter]
  refine h.mono ?_
  rintro e w' ⟨v, rfl, hw⟩
  exact hw
theorem step_call_fn (hgd : o.guard = none) (f : FuncId) (xs : Array Operand) (ats : Array TypeId)
    (ho : o.op = .call { callee := .value (.func f), args := xs, argTypes := ats }) (hf : ∀ vs w, (callFunc f vs).run P w = .ok (.enter f vs) w) (vs : Array Value) (hx : xs.map a.eval = vs)
    (h : Calls P f vs w fun e w' => ∃ v, e = .returned v ∧ K (a.put o.dst v) w') : if Region.wanted o (yielded ops a.tmps) = true then Oper.wp P o a w K Q else E := by
  have hw : Region.wanted o (yielded ops a.tmps) = true := by simp [Region.wanted, hgd]
  rw [if_pos hw]
  subst hx
  unfold Oper.wp
  have e : execOp a.eval o = callFunc f (xs.map a.eval) := by
    obtain ⟨dst, op, ty, pos, after, guard⟩ := o
    simp only at ho
    subst ho
    simp [execOp, resolve, invoke, Act.eval, Deferred.ofValue]
  rw [e, hf, Oper.upon_enter]
  refine h.mono ?_
  rintro e w' ⟨v, rfl, hw⟩
  exact hw
end
end Go
/- The contracts of the small functions: a word's token, a byte of a string. -/
set_option maxRecDepth 100000
namespace Go.Proofs.YtggjckalmlploaaGreatDoor.Lx
open Go.RowKit Go.Proofs.LexMath

def tokV (t : Tok) : Value := .agg #[.int .i64 t.kind, .string t.text, .int .i64 t.num, .int .i64 t.at_]
theorem keyOr_any (k : Int) (s : ByteArray) (w : World) :
    Calls Tryz.prog 54 #[.int .i64 k, .string s] w fun e w' => e = .returned (tokV ⟨if key s.data.toList = true then 6 else k, s, 0, 0⟩) ∧ Below w.heap.size w w' := by
  cases hk : key s.data.toList with
  | true =>
    have C := key_any s
    rw [hk] at C
    have HC := Lib.hid C
    clear C hk
    go_enter Tryz.func54, Tryz.ntmps54
    go_wp2_with (go_at_call 73; refine (HC.out _).mono ?_; rintro e w1 ⟨rfl, rfl⟩)
    exact bodyPost_ret (v := .agg #[.int .i64 6, .string s, .int .i64 0, .int .i64 0]) (by simp [results, Tryz.results54, go_sem]) rfl ⟨rfl, (Below.refl _ _).alloc (Nat.le_refl _) _⟩
  | false =>
    have C := key_any s
    rw [hk] at C
    have HC := Lib.hid C
    clear C hk
    go_enter Tryz.func54, Tryz.ntmps54
    go_wp2_with (go_at_call 73; refine (HC.out _).mono ?_; rintro e w1 ⟨rfl, rfl⟩)
    exact bodyPost_ret (v := .agg #[.int .i64 k, .string s, .int .i64 0, .int .i64 0]) (by simp [results, Tryz.results54, go_sem]) rfl ⟨rfl, (Below.refl _ _).alloc (Nat.le_refl _) _⟩
theorem call32 (vs : Array Value) (w : World) : (callFunc 72 vs).run Tryz.prog w = .ok (.enter 72 vs) w := run_callFunc Tryz.func72 (by kernel_rfl) (by kernel_rfl) vs w
/-- A block that holds a token. -/
def TokBlk (w : World) (g : Nat) (t : Tok) : Prop := w.heap[g]? = some (.cells #[.int .i64 t.kind, .string t.text, .int .i64 t.num, .int .i64 t.at_] 45 (0, 0))
theorem TokBlk.lt {w : World} {g : Nat} {t : Tok} (h : TokBlk w g t) : g < w.heap.size := (Array.getElem?_eq_some_iff.1 h).1
theorem TokBlk.below {w w' : World} {g B : Nat} {t : Tok} (h : TokBlk w g t) (b : Below B w w') (hg : g < B) : TokBlk w' g t := (b.block g hg).trans h
theorem TokBlk.facts {w : World} {g : Nat} {t : Tok} (h : TokBlk w g t) :
    (w.cell? ⟨g, 0, none⟩ = some (.int .i64 t.kind) ∧ w.cell? ⟨g, 1, none⟩ = some (.string t.text) ∧ w.cell? ⟨g, 2, none⟩ = some (.int .i64 t.num) ∧ w.cell? ⟨g, 3, none⟩ = some (.int .i64 t.at_)) ∧
    (w.frozen? ⟨g, 0, none⟩ = false ∧ w.frozen? ⟨g, 1, none⟩ = false ∧ w.frozen? ⟨g, 2, none⟩ = false ∧ w.frozen? ⟨g, 3, none⟩ = false) :=
  ⟨⟨cell_of_row w g 0 _ _ _ h, cell_of_row w g 1 _ _ _ h, cell_of_row w g 2 _ _ _ h, cell_of_row w g 3 _ _ _ h⟩, ⟨frozen_of_row w g 0 _ _ h, frozen_of_row w g 1 _ _ h, frozen_of_row w g 2 _ _ h, frozen_of_row w g 3 _ _ h⟩⟩
theorem TokBlk.new (w : World) : TokBlk (w.alloc (.cells #[.int .i64 0, .string ⟨#[]⟩, .int .i64 0, .int .i64 0] 45)) w.heap.size ⟨0, ⟨#[]⟩, 0, 0⟩ := heap_alloc_new w _
set_option maxHeartbeats 1000000 in
theorem named_any (s : ByteArray) (w : World) (h : 0 < s.size) :
    Calls Tryz.prog 49 #[.string s] w fun e w' => e = .returned (tokV ⟨if key s.data.toList = true then 6 else if low (s[0].toNat : Nat) = true then 1 else 2, s, 0, 0⟩) ∧ Below w.heap.size w w' := by
  have hb : (s[0].toNat : Int) ≤ 255 := by have := s[0].toNat_lt; omega
  have hwr : IntKind.i32.wrap (s[0].toNat : Int) = s[0].toNat := IntWalk.i32_in _ (by omega)
  have Z := TokBlk.new w
  have BA : Hid (Below w.heap.size w (w.alloc (.cells #[.int .i64 0, .string ⟨#[]⟩, .int .i64 0, .int .i64 0] 45)).drew) := ((Below.refl _ _).alloc (Nat.le_refl _) _).drew
  have Z0 : Hid (TokBlk (w.alloc (.cells #[.int .i64 0, .string ⟨#[]⟩, .int .i64 0, .int .i64 0] 45)).drew w.heap.size ⟨0, ⟨#[]⟩, 0, 0⟩) := Z
  clear Z
  cases hl : low (s[0].toNat : Nat) with
  | true =>
    have HLo := Lib.hid hl
    clear hl
    have C := keyOr_any 1 s
    show Calls Tryz.prog 49 #[.string s] w fun e w' => e = .returned (tokV ⟨if key s.data.toList = true then 6 else 1, s, 0, 0⟩) ∧ Below w.heap.size w w'
    generalize (if key s.data.toList = true then (6 : Int) else 1) = kd at C ⊢
    have HC := Lib.hid C
    clear C
    go_enter Tryz.func49, Tryz.ntmps49
    go_wp2
    go_region_law ((first | (refine step_call_fn (by rfl) 72 #[] #[] (by rfl) call32 #[] (by simp) ?_; refine (lowers_any _).mono ?_; rintro e w1 ⟨v1, rfl, c1, b1⟩; refine ⟨_, rfl, ?_⟩; have B1 := Lib.hid b1; clear b1; obtain ⟨f, caps, hv, hf, hcl⟩ := c1; subst hv; have HL := Lib.hid hcl; have HW := Lib.hid hf; clear hcl hf) | (refine step_call_slot (by rfl) 3 #[.tmp 6] #[21] (by rfl) f caps (by rfl) HW.out (#[.int .i32 (s[0].toNat : Nat)] ++ caps) (by simp [go_sem]) ?_; refine (HL.out _ _ (by first | exact Below.refl _ _ | exact (Below.refl _ _).drew)).mono ?_; rintro e w2 ⟨rfl, b2⟩; refine ⟨_, rfl, ?_⟩; have B2 := Lib.hid b2; clear b2)))
    all_goals
      have hz := Z0.out.lt
      have C1 := Lib.hid (B1.out.trans (B2.out.mono B1.out.size))
      have ZW := Lib.hid (Z0.out.below C1.out hz)
      have BW := Lib.hid (BA.out.trans (C1.out.mono BA.out.size))
      rw [HLo.out]
      clear B1 B2 C1 hz hb hwr
      go_wp2_with (go_at_call 54; refine (HC.out _).mono ?_; rintro e w3 ⟨rfl, b3⟩; unfold tokV; have ⟨⟨q1, q2, q3, q4⟩, ⟨f1, f2, f3, f4⟩⟩ := (ZW.out.below b3 ZW.out.lt).facts)
      refine bodyPost_ret (v := tokV ⟨kd, s, 0, 0⟩) (by simp [results, Tryz.results49, go_sem, tokV, q1, q2, q3, q4]) rfl ⟨rfl, ?_⟩
      exact ((((BW.out.trans (b3.mono BW.out.size)).setCell (Nat.le_refl _) _).setCell (Nat.le_refl _) _).setCell (Nat.le_refl _) _).setCell (Nat.le_refl _) _
  | false =>
    have HLo := Lib.hid hl
    clear hl
    have C := keyOr_any 2 s
    show Calls Tryz.prog 49 #[.string s] w fun e w' => e = .returned (tokV ⟨if key s.data.toList = true then 6 else 2, s, 0, 0⟩) ∧ Below w.heap.size w w'
    generalize (if key s.data.toList = true then (6 : Int) else 2) = kd at C ⊢
    have HC := Lib.hid C
    clear C
    go_enter Tryz.func49, Tryz.ntmps49
    go_wp2
    go_region_law ((first | (refine step_call_fn (by rfl) 72 #[] #[] (by rfl) call32 #[] (by simp) ?_; refine (lowers_any _).mono ?_; rintro e w1 ⟨v1, rfl, c1, b1⟩; refine ⟨_, rfl, ?_⟩; have B1 := Lib.hid b1; clear b1; obtain ⟨f, caps, hv, hf, hcl⟩ := c1; subst hv; have HL := Lib.hid hcl; have HW := Lib.hid hf; clear hcl hf) | (refine step_call_slot (by rfl) 3 #[.tmp 6] #[21] (by rfl) f caps (by rfl) HW.out (#[.int .i32 (s[0].toNat : Nat)] ++ caps) (by simp [go_sem]) ?_; refine (HL.out _ _ (by first | exact Below.refl _ _ | exact (Below.refl _ _).drew)).mono ?_; rintro e w2 ⟨rfl, b2⟩; refine ⟨_, rfl, ?_⟩; have B2 := Lib.hid b2; clear b2)))
    all_goals
      have hz := Z0.out.lt
      have C1 := Lib.hid (B1.out.trans (B2.out.mono B1.out.size))
      have ZW := Lib.hid (Z0.out.below C1.out hz)
      have BW := Lib.hid (BA.out.trans (C1.out.mono BA.out.size))
      rw [HLo.out]
      clear B1 B2 C1 hz hb hwr
      go_wp2_with (go_at_call 54; refine (HC.out _).mono ?_; rintro e w3 ⟨rfl, b3⟩; unfold tokV; have ⟨⟨q1, q2, q3, q4⟩, ⟨f1, f2, f3, f4⟩⟩ := (ZW.out.below b3 ZW.out.lt).facts)
      refine bodyPost_ret (v := tokV ⟨kd, s, 0, 0⟩) (by simp [results, Tryz.results49, go_sem, tokV, q1, q2, q3, q4]) rfl ⟨rfl, ?_⟩
      exact ((((BW.out.trans (b3.mono BW.out.size)).setCell (Nat.le_refl _) _).setCell (Nat.le_refl _) _).setCell (Nat.le_refl _) _).setCell (Nat.le_refl _) _
theorem plain_any (c : Int) (w : World) : Calls Tryz.prog 116 #[.int .u8 c] w fun e w' => e = .returned (.bool (pln c)) ∧ w = w' := by
  by_cases h : 32 ≤ c
  · have h1 : decide (32 ≤ c) = true := by simpa using h
    go_enter Tryz.func116, Tryz.ntmps116
    go_wp2
    go_ret
    exact ⟨ret_bool (by simp [pln, h]), rfl⟩
  · have h1 : decide (32 ≤ c) = false := by simpa using h
    go_enter Tryz.func116, Tryz.ntmps116
    go_wp2
    go_ret
    exact ⟨ret_bool (by simp [pln]; omega), rfl⟩
def hexs : Bs := [48, 49, 50, 51, 52, 53, 54, 55, 56, 57, 97, 98, 99, 100, 101, 102]
theorem hex_any (r : Int) : hexs.any (fun c => iv c == r) = decide (0 ≤ hexv r) := by
  rw [Bool.eq_iff_iff]
  simp only [hexs, List.any_cons, List.any_nil, Bool.or_false, Bool.or_eq_true, beq_iff_eq, decide_eq_true_eq]
  have e : iv 48 = 48 ∧ iv 49 = 49 ∧ iv 50 = 50 ∧ iv 51 = 51 ∧ iv 52 = 52 ∧ iv 53 = 53 ∧ iv 54 = 54 ∧ iv 55 = 55 ∧ iv 56 = 56 ∧ iv 57 = 57 ∧ iv 97 = 97 ∧ iv 98 = 98 ∧ iv 99 = 99 ∧ iv 100 = 100 ∧ iv 101 = 101 ∧ iv 102 = 102 := by decide
  obtain ⟨e1, e2, e3, e4, e5, e6, e7, e8, e9, e10, e11, e12, e13, e14, e15, e16⟩ := e
  rw [e1, e2, e3, e4, e5, e6, e7, e8, e9, e10, e11, e12, e13, e14, e15, e16]
  unfold hexv
  split
  · omega
  · split <;> omega
theorem isHex_any (c : Int) (w : World) (h0 : 0 ≤ c) (h1 : c ≤ 255) : Calls Tryz.prog 135 #[.int .u8 c] w fun e w' => e = .returned (.bool (decide (0 ≤ hexv c))) ∧ Below w.heap.size w w' := by
  go_enter Tryz.func135, Tryz.ntmps135
  go_wp2_with fail
  refine (oneOf_any _ _ (by decide) (by decide)).mono ?_
  rintro e w1 ⟨v1, rfl, c1, b1⟩
  obtain ⟨f, caps, rfl, hf, hcl⟩ := c1
  have HW := Lib.hid hf
  have HL := Lib.hid (hcl c w1 (Below.refl _ _))
  clear hf hcl
  go_wp2_with ((refine wpList_call_slot (o := ⟨some 6, _, _, _, _, _⟩) rfl 3 _ _ rfl f caps rfl HW.out (#[.int .i32 c] ++ caps) (by simp [go_sem]) ?_; refine HL.out.mono ?_; rintro e w2 ⟨rfl, hs⟩; refine ⟨_, rfl, ?_⟩; simp only [Act.put, List.setIfInBounds_toArray, List.set_cons_succ, List.set_cons_zero]; have HS := Lib.hid hs; clear hs))
  go_ret
  exact ⟨ret_bool (hex_any c), b1.trans (HS.out.mono b1.size)⟩
theorem hexValue_any (c : Int) (w : World) (h : 0 ≤ hexv c) : Calls Tryz.prog 136 #[.int .u8 c] w fun e w' => e = .returned (.int .u8 (hexv c)) ∧ w = w' := by
  unfold hexv at h ⊢
  by_cases h1 : 48 ≤ c ∧ c ≤ 57
  · rw [if_pos h1]
    obtain ⟨h1, h2⟩ := h1
    clear h
    go_enter Tryz.func136, Tryz.ntmps136
    go_wp2
    go_ret
    exact ⟨rfl, rfl⟩
  · rw [if_neg h1] at h ⊢
    by_cases h2 : 97 ≤ c ∧ c ≤ 102
    · rw [if_pos h2]
      obtain ⟨h2, h3⟩ := h2
      clear h h1
      go_enter Tryz.func136, Tryz.ntmps136
      go_wp2
      go_ret
      refine ⟨ret_int ?_, rfl⟩
      omega
    · rw [if_neg h2] at h
      omega
end Go.Proofs.YtggjckalmlploaaGreatDoor.Lx
