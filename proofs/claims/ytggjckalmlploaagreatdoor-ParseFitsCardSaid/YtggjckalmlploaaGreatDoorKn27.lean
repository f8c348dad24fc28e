/- Texts of this seat, one behind the other: ParX, ParY. -/
import Derived.Test.YtggjckalmlploaaGreatDoorKn25
import Derived.Shelf.SlicesE.Index
import Derived.Lib.QuietBelow
/- The parser's tests: kinds, one of several; what comes next; the next token. -/
set_option maxRecDepth 100000
namespace Go.Proofs.YtggjckalmlploaaGreatDoor
open Go.Shelf Go.RowKit Go.Lib Go.Proofs.TreeMath Go.Proofs.LexMath Go.Proofs.FixMath Go.Proofs.ParMath
def fieldsLays_ren : Go.Shelf.Ren := ⟨fun | 157 => 87 | 229 => 117 | 199 => 118 | 261 => 137 | 311 => 143 | 312 => 144 | n => n, fun | 9 => 9 | 31 => 67 | 3 => 3 | 5 => 5 | 4 => 4 | 119 => 148 | 0 => 0 | 40 => 81 | 152 => 165 | 21 => 21 | 154 => 167 | 51 => 143 | 141 => 169 | 196 => 182 | 193 => 179 | 198 => 185 | 49 => 183 | 194 => 180 | 201 => 188 | 226 => 191 | 46 => 114 | 227 => 192 | n => n, fun | 0 => 1 | 6 => 2 | n => n⟩
theorem fieldsLays : Go.Proofs.Lays.n157 Tryz.prog fieldsLays_ren where
  mixed := by kernel_rfl
  f157 := Tryz.func87.trans (congrArg some (by kernel_rfl))
  f199 := Tryz.func118.trans (congrArg some (by kernel_rfl))
  f229 := Tryz.func117.trans (congrArg some (by kernel_rfl))
  f261 := Tryz.func137.trans (congrArg some (by kernel_rfl))
  f311 := Tryz.func143.trans (congrArg some (by kernel_rfl))
  f312 := Tryz.func144.trans (congrArg some (by kernel_rfl))
  t0 := Tryz.underlying0
  a0 := Tryz.isAgg0
  z0 := Tryz.sizeOf0
  v0 := Tryz.zeroValue0
  t3 := Tryz.underlying3
  a3 := Tryz.isAgg3
  z3 := Tryz.sizeOf3
  v3 := Tryz.zeroValue3
  t4 := Tryz.underlying4
  a4 := Tryz.isAgg4
  z4 := Tryz.sizeOf4
  v4 := Tryz.zeroValue4
  t5 := Tryz.underlying5
  a5 := Tryz.isAgg5
  z5 := Tryz.sizeOf5
  v5 := Tryz.zeroValue5
  t9 := Tryz.underlying9
  a9 := Tryz.isAgg9
  z9 := Tryz.sizeOf9
  v9 := Tryz.zeroValue9
  t21 := Tryz.underlying21
  a21 := Tryz.isAgg21
  z21 := Tryz.sizeOf21
  v21 := Tryz.zeroValue21
  t31 := Tryz.underlying67
  a31 := Tryz.isAgg67
  z31 := Tryz.sizeOf67
  v31 := Tryz.zeroValue67
  t40 := Tryz.underlying81
  a40 := Tryz.isAgg81
  z40 := Tryz.sizeOf81
  v40 := Tryz.zeroValue81
  t46 := Tryz.underlying114
  a46 := Tryz.isAgg114
  z46 := Tryz.sizeOf114
  v46 := Tryz.zeroValue114
  t49 := Tryz.underlying183
  a49 := Tryz.isAgg183
  z49 := Tryz.sizeOf183
  v49 := Tryz.zeroValue183
  t51 := Tryz.underlying143
  a51 := Tryz.isAgg143
  z51 := Tryz.sizeOf143
  v51 := Tryz.zeroValue143
  t119 := Tryz.underlying148
  a119 := Tryz.isAgg148
  z119 := Tryz.sizeOf148
  t141 := Tryz.underlying169
  a141 := Tryz.isAgg169
  z141 := Tryz.sizeOf169
  v141 := Tryz.zeroValue169
  t152 := Tryz.underlying165
  a152 := Tryz.isAgg165
  z152 := Tryz.sizeOf165
  v152 := Tryz.zeroValue165
  t154 := Tryz.underlying167
  a154 := Tryz.isAgg167
  z154 := Tryz.sizeOf167
  v154 := Tryz.zeroValue167
  t193 := Tryz.underlying179
  a193 := Tryz.isAgg179
  z193 := Tryz.sizeOf179
  v193 := Tryz.zeroValue179
  t194 := Tryz.underlying180
  a194 := Tryz.isAgg180
  z194 := Tryz.sizeOf180
  v194 := Tryz.zeroValue180
  t196 := Tryz.underlying182
  a196 := Tryz.isAgg182
  z196 := Tryz.sizeOf182
  v196 := Tryz.zeroValue182
  t198 := Tryz.underlying185
  a198 := Tryz.isAgg185
  z198 := Tryz.sizeOf185
  v198 := Tryz.zeroValue185
  t201 := Tryz.underlying188
  a201 := Tryz.isAgg188
  z201 := Tryz.sizeOf188
  v201 := Tryz.zeroValue188
  t226 := Tryz.underlying191
  a226 := Tryz.isAgg191
  z226 := Tryz.sizeOf191
  v226 := Tryz.zeroValue191
  t227 := Tryz.underlying192
  a227 := Tryz.isAgg192
  z227 := Tryz.sizeOf192
  v227 := Tryz.zeroValue192
  g0 := by kernel_rfl
  g6 := by kernel_rfl
def kindsLays_ren : Go.Shelf.Ren := ⟨fun | 31 => 97 | 29 => 127 | n => n, fun | 22 => 128 | 23 => 43 | 4 => 4 | 3 => 3 | 0 => 0 | n => n, fun | n => n⟩
theorem kindsLays : Go.Proofs.SlLaysE.n31 Tryz.prog kindsLays_ren where
  mixed := by kernel_rfl
  f29 := ⟨ "slices.Index[[]triglyph/api.TokenKind,triglyph/api.TokenKind]", by decide, Tryz.func127.trans (congrArg some (by kernel_rfl))⟩
  f31 := ⟨ "slices.Contains[[]triglyph/api.TokenKind,triglyph/api.TokenKind]", by decide, Tryz.func97.trans (congrArg some (by kernel_rfl))⟩
  t0 := Tryz.underlying0
  a0 := Tryz.isAgg0
  z0 := Tryz.sizeOf0
  v0 := Tryz.zeroValue0
  t3 := Tryz.underlying3
  a3 := Tryz.isAgg3
  z3 := Tryz.sizeOf3
  v3 := Tryz.zeroValue3
  t4 := Tryz.underlying4
  a4 := Tryz.isAgg4
  z4 := Tryz.sizeOf4
  v4 := Tryz.zeroValue4
  t22 := Tryz.underlying128
  a22 := Tryz.isAgg128
  z22 := Tryz.sizeOf128
  v22 := Tryz.zeroValue128
  a23 := Tryz.isAgg43
  z23 := Tryz.sizeOf43

/-- slices.Contains at kinds of tokens. -/
theorem kinds_any (ks : List Int) (b off n c : Nat) (x : Int) (w : World) (hn : ks.length = n) (hb : n ≤ 1000) (hc : CellsIn w b off (intCells ks)) :
    Calls Tryz.prog 97 #[.slice (some ⟨b, off, none⟩) n c, .int .i64 x] w fun e w' => e = .returned (.bool (ks.any fun k => decide (x = k))) ∧ w' = w := by
  have h := AnyE.slices_Contains kindsLays (Value.int .i64) (fun x y => x == y) (EqlAt.int Tryz.prog 43 .i64) b off n c ks x w (by omega) (by omega) (fun j hj => by
    have := hc.int j hj
    rw [this]
    congr 2
    rw [List.getD_eq_getElem?_getD, List.getElem!_eq_getElem?_getD]
    rfl)
  refine h.mono ?_
  rintro e w' ⟨rfl, rfl⟩
  refine ⟨?_, rfl⟩
  congr 2
  rw [List.take_of_length_le (by omega)]
  rfl
theorem kind1_any (ks : List Int) (t : Tok) (bb b off n c : Nat) (w : World) (hn : ks.length = n) (hb : n ≤ 1000) (hx : w.cell? ⟨bb, 0, none⟩ = some (.slice (some ⟨b, off, none⟩) n c)) (hbk : b < w.heap.size) (hc : CellsIn w b off (intCells ks)) :
    Calls Tryz.prog 96 #[tokV t, .pointer (some ⟨bb, 0, none⟩)] w fun e w' => e = .returned (.bool (isKind ks t)) ∧ Below w.heap.size w w' := by
  have hbb := World.block_lt_of_cell? _ _ hx
  have hx2 := fun o => (World.cell?_alloc_old w o ⟨bb, 0, none⟩ (Nat.ne_of_lt hbb)).trans hx
  have K := Lib.hid (fun o => kinds_any ks b off n c t.kind (w.alloc o) hn hb (hc.kept (((Below.refl _ _).alloc (Nat.le_refl _) o).block b hbk)))
  clear hc
  unfold tokV isKind
  go_enter Tryz.func96, Tryz.ntmps96
  go_wp2_with fail
  refine (K.out _).mono ?_
  rintro e w1 ⟨rfl, rfl⟩
  go_wp2
  go_ret
  exact ⟨rfl, (Below.refl _ _).alloc (Nat.le_refl _) _⟩
theorem kind_any (p : Nat) (ks : List Int) (b off n c : Nat) (w : World) (hp : p < w.heap.size) (hn : ks.length = n) (hb : n ≤ 1000) (hbk : b < w.heap.size) (hbp : b ≠ p) (hc : CellsIn w b off (intCells ks)) :
    Calls Tryz.prog 68 #[.slice (some ⟨b, off, none⟩) n c] w fun e w' => ∃ v, e = .returned v ∧ IsTest p w' v (isKind ks) ∧ Below w.heap.size w w' := by
  have HC := Lib.hid hc
  clear hc
  go_enter Tryz.func68, Tryz.ntmps68
  go_wp2
  go_ret
  have hbel : Below w.heap.size w (w.alloc (.cells #[.slice (some ⟨b, off, none⟩) n c] 128)) := (Below.refl _ _).alloc (Nat.le_refl _) _
  refine ⟨_, rfl, ⟨96, _, rfl, call96, fun W hW t => ?_⟩, hbel⟩
  refine kind1_any ks t _ b off n c W hn hb ?_ ?_ ?_
  · rw [hW.cell (a := ⟨w.heap.size, 0, none⟩) (by simp) (by show w.heap.size ≠ p; omega)]
    simp
  · exact Nat.lt_of_lt_of_le hbk (Nat.le_trans hbel.size hW.size)
  · exact (HC.out.kept (hbel.block b hbk)).kept (hW.block b (Nat.lt_of_lt_of_le hbk hbel.size) hbp)
/-- Tests in a row. -/
def TestsIn (p : Nat) (w : World) (b off : Nat) (fs : List Test) : Prop := ∀ j, j < fs.length → ∃ v, w.cell? ⟨b, off + j, none⟩ = some v ∧ IsTest p w v (fs.getD j default)
theorem TestsIn.bar {p : Nat} {w w' : World} {b off : Nat} {fs : List Test} (h : TestsIn p w b off fs) (hb : b < w.heap.size) (hp : b ≠ p) (k : Bar p w w') : TestsIn p w' b off fs := fun j hj => by
  obtain ⟨v, h1, h2⟩ := h j hj
  exact ⟨v, by rw [k.cell (a := ⟨b, off + j, none⟩) hb hp]; exact h1, h2.bar k⟩
theorem sees_eq (fs : List Test) (l : List Tok) (k : Nat) (hk : k < fs.length) (hl : k < l.length) : sees (fs.drop k) (l.drop k) = ((fs.getD k default) (l.getD k tok0) && sees (fs.drop (k + 1)) (l.drop (k + 1))) := by
  rw [List.getD_eq_getElem?_getD, List.getD_eq_getElem?_getD, List.getElem?_eq_getElem hk, List.getElem?_eq_getElem hl, List.drop_eq_getElem_cons hk, List.drop_eq_getElem_cons hl]
  rfl
theorem sees_short (fs : List Test) (l : List Tok) (h : l.length < fs.length) : sees fs l = false := by
  induction fs generalizing l with
  | nil => simp at h
  | cons f fs ih =>
    cases l with
    | nil => rfl
    | cons t l => unfold sees; rw [ih l (by simpa using h), Bool.and_false]
set_option maxHeartbeats 4000000 in
theorem sees_any (C : Cfg) (p : Nat) (dp : Int) (s : St) (fs : List Test) (b off n c : Nat) (w : World) (h : PS C p dp s w) (hn : fs.length = n) (hn1 : n ≤ 100) (hb : b < w.heap.size) (hbp : b ≠ p) (ht : TestsIn p w b off fs) :
    Calls Tryz.prog 35 #[.pointer (some ⟨p, 0, none⟩), .slice (some ⟨b, off, none⟩) n c] w fun e w' => e = .returned (.bool (sees fs s.rest)) ∧ Below w.heap.size w w' := by
  obtain ⟨q, k, h0⟩ := h.c0
  by_cases hl : s.rest.length < n
  · have hlz : ((s.rest.length : Int) < (n : Int)) := by omega
    rw [sees_short fs s.rest (by omega)]
    clear h ht
    go_enter Tryz.func35, Tryz.ntmps35
    go_wp2
    go_ret
    exact ⟨rfl, Below.refl _ _⟩
  · have hlz : ¬ ((s.rest.length : Int) < (n : Int)) := by omega
    have TOK : Hid (∀ j W, Below w.heap.size w W → j < n → ∃ b2 off2 kk, W.cell? ⟨p, 0, none⟩ = some (.slice (some ⟨b2, off2, none⟩) s.rest.length kk) ∧ W.cell? ⟨b2, off2 + j * 4, none⟩ = some (.int .i64 (s.rest.getD j tok0).kind) ∧ W.cell? ⟨b2, off2 + j * 4 + 1, none⟩ = some (.string (s.rest.getD j tok0).text) ∧
        W.cell? ⟨b2, off2 + j * 4 + 2, none⟩ = some (.int .i64 (s.rest.getD j tok0).num) ∧ W.cell? ⟨b2, off2 + j * 4 + 3, none⟩ = some (.int .i64 (s.rest.getD j tok0).at_)) := Lib.hid (fun j W hW hj => by
      obtain ⟨q, k, _, _, hq, _, hq0, _⟩ := (h.below hW).cells
      obtain ⟨_, q', k', e, _, _, h4⟩ := hq
      obtain ⟨b2, off2, rfl, _, hc2⟩ := h4 (by omega)
      simp only [Value.slice.injEq] at e
      obtain ⟨rfl, _, rfl⟩ := e
      have hk := Lx.CellsIn.tok (w := W) (b := b2) (off := off2) hc2 j (by omega)
      have e1 : s.rest.getD j tok0 = s.rest.getD j default := by
        rw [List.getD_eq_getElem?_getD, List.getD_eq_getElem?_getD, List.getElem?_eq_getElem (by omega)]; rfl
      rw [e1]
      exact ⟨b2, off2, _, hq0, hk⟩)
    have TST : Hid (∀ W, Below w.heap.size w W → TestsIn p W b off fs) := Lib.hid fun W hW => ht.bar hb hbp (.of_below hW)
    have STEP := Lib.hid (sees_eq fs s.rest)
    have hps := Lib.hid h.lt
    generalize hR : sees fs s.rest = R
    have HR := Lib.hid hR
    clear h ht hR
    go_enter Tryz.func35, Tryz.ntmps35
    go_wp2
    go_loopw [17] (fun s17 wr => ∃ j : Nat, j ≤ n ∧ s17 = .int .i64 j ∧ Below w.heap.size w wr ∧ sees (fs.drop j) (s.rest.drop j) = R) (fun s17 _ => match s17 with | .int _ m => n - m.toNat | _ => 0)
    case atStart => exact ⟨0, Nat.zero_le _, rfl, Below.refl _ _, HR.out⟩
    case round =>
      obtain ⟨wo, hwo⟩ : ∃ wo : World, wo = wr := ⟨_, rfl⟩
      subst hwo
      obtain ⟨j, hj, rfl, hB, hq⟩ := hrel
      have BW := Lib.hid hB
      by_cases hjn : j < n
      · have hjz : ((j : Int) < (n : Int)) := by omega
        obtain ⟨b2, off2, kk, g0, g1, g2, g3, g4⟩ := TOK.out j wo hB hjn
        obtain ⟨tv, gt, hT⟩ := TST.out wo hB j (by omega)
        obtain ⟨f, cap, rfl, hf, hcl⟩ := hT
        have HF := Lib.hid hf
        have hjs : (j : Int) < (s.rest.length : Int) := by omega
        have HL := hcl wo (Bar.refl _ _) (s.rest.getD j tok0)
        have hst := STEP.out j (by omega) (by omega)
        rw [hq] at hst
        generalize htk : s.rest.getD j tok0 = tk at *
        clear hcl hf hB htk
        cases hv : (fs.getD j default) tk with
        | true =>
          rw [hv] at HL hst
          have HL := Lib.hid HL
          have HST := Lib.hid hst
          clear hst hv hq
          go_wp2_with ((refine wpList_call_slot (o := ⟨some 30, _, _, _, _, _⟩) rfl 22 _ _ rfl f cap rfl HF.out (#[tokV tk] ++ cap) (by simp [go_sem, tokV]) ?_; refine HL.out.mono ?_; rintro e w1 ⟨rfl, hs⟩; refine ⟨_, rfl, ?_⟩; simp only [Act.put, List.setIfInBounds_toArray, List.set_cons_succ, List.set_cons_zero]; have HS := Lib.hid hs; clear hs))
          go_roundw
          case rel => exact ⟨j + 1, by omega, by first | rfl | simp, BW.out.trans (HS.out.mono BW.out.size), by rw [HST.out]; rfl⟩
          case measure => simp; omega
        | false =>
          rw [hv] at HL hst
          have HL := Lib.hid HL
          have HST := Lib.hid hst
          clear hst hv hq
          go_wp2_with ((refine wpList_call_slot (o := ⟨some 30, _, _, _, _, _⟩) rfl 22 _ _ rfl f cap rfl HF.out (#[tokV tk] ++ cap) (by simp [go_sem, tokV]) ?_; refine HL.out.mono ?_; rintro e w1 ⟨rfl, hs⟩; refine ⟨_, rfl, ?_⟩; simp only [Act.put, List.setIfInBounds_toArray, List.set_cons_succ, List.set_cons_zero]; have HS := Lib.hid hs; clear hs))
          go_ret
          exact ⟨by rw [HST.out]; rfl, BW.out.trans (HS.out.mono BW.out.size)⟩
      · have hjz : ¬ ((j : Int) < (n : Int)) := by omega
        have HQ := Lib.hid hq
        clear hq
        go_wp2
        go_ret
        have : j = n := by omega
        refine ⟨?_, BW.out⟩
        have h5 := HQ.out
        rw [this, List.drop_eq_nil_of_le (by omega)] at h5
        rw [← h5]
        cases s.rest.drop n <;> rfl
end Go.Proofs.YtggjckalmlploaaGreatDoor
/- The parser's tests: one of several; the next token; a bind. -/
set_option maxRecDepth 100000
namespace Go.Proofs.YtggjckalmlploaaGreatDoor
open Go.Shelf Go.RowKit Go.Lib Go.Proofs.TreeMath Go.Proofs.LexMath Go.Proofs.FixMath Go.Proofs.ParMath
theorem tok_box (w : World) (t : Tok) : (w.alloc (.cells #[.int .i64 t.kind, .string t.text, .int .i64 t.num, .int .i64 t.at_] 45)).cell? ⟨w.heap.size, 0, none⟩ = some (.int .i64 t.kind) ∧ (w.alloc (.cells #[.int .i64 t.kind, .string t.text, .int .i64 t.num, .int .i64 t.at_] 45)).cell? ⟨w.heap.size, 1, none⟩ = some (.string t.text) ∧
    (w.alloc (.cells #[.int .i64 t.kind, .string t.text, .int .i64 t.num, .int .i64 t.at_] 45)).cell? ⟨w.heap.size, 2, none⟩ = some (.int .i64 t.num) ∧ (w.alloc (.cells #[.int .i64 t.kind, .string t.text, .int .i64 t.num, .int .i64 t.at_] 45)).cell? ⟨w.heap.size, 3, none⟩ = some (.int .i64 t.at_) := by simp
/-- The innermost closure: does a test take the token that lies in a box? -/
theorem one_any (p : Nat) (t : Tok) (tb : Nat) (v : Value) (f : Test) (w : World) (h0 : w.cell? ⟨tb, 0, none⟩ = some (.int .i64 t.kind)) (h1 : w.cell? ⟨tb, 1, none⟩ = some (.string t.text)) (h2 : w.cell? ⟨tb, 2, none⟩ = some (.int .i64 t.num)) (h3 : w.cell? ⟨tb, 3, none⟩ = some (.int .i64 t.at_)) (hv : IsTest p w v f) :
    Calls Tryz.prog 123 #[v, .pointer (some ⟨tb, 0, none⟩)] w fun e w' => e = .returned (.bool (f t)) ∧ Below w.heap.size w w' := by
  obtain ⟨g, cap, rfl, hf, hcl⟩ := hv
  have HF := Lib.hid hf
  have HL := Lib.hid (hcl w (Bar.refl _ _) t)
  clear hf hcl
  go_enter Tryz.func123, Tryz.ntmps123
  go_wp2_with ((refine wpList_call_slot (o := ⟨some 6, _, _, _, _, _⟩) rfl 4 _ _ rfl g cap rfl HF.out (#[tokV t] ++ cap) (by simp [go_sem, tokV]) ?_; refine HL.out.mono ?_; rintro e w1 ⟨rfl, hs⟩; refine ⟨_, rfl, ?_⟩; simp only [Act.put, List.setIfInBounds_toArray, List.set_cons_succ, List.set_cons_zero]; have HS := Lib.hid hs; clear hs))
  go_ret
  exact ⟨rfl, HS.out⟩
def anyAt (fs : List Test) (t : Tok) : Int := Lib.idxBy (fun _ f => f t) fs default
set_option maxHeartbeats 4000000 in
theorem indexT_any (p : Nat) (t : Tok) (tb : Nat) (fs : List Test) (b off n c : Nat) (w : World) (hn : fs.length = n) (hn1 : n ≤ 100) (_htb : tb ≠ p) (hb : b < w.heap.size) (hbp : b ≠ p)
    (h0 : w.cell? ⟨tb, 0, none⟩ = some (.int .i64 t.kind)) (h1 : w.cell? ⟨tb, 1, none⟩ = some (.string t.text)) (h2 : w.cell? ⟨tb, 2, none⟩ = some (.int .i64 t.num)) (h3 : w.cell? ⟨tb, 3, none⟩ = some (.int .i64 t.at_)) (ht : TestsIn p w b off fs) :
    Calls Tryz.prog 138 #[.slice (some ⟨b, off, none⟩) n c, .func (.func 123) #[] #[.pointer (some ⟨tb, 0, none⟩)]] w fun e w' => (∃ j : Int, e = .returned (.int .i64 j) ∧ decide (0 ≤ j) = either fs t) ∧ Below w.heap.size w w' := by
  have htl := World.block_lt_of_cell? _ _ h0
  have TST : Hid (∀ j W, Below w.heap.size w W → j < n → ∃ v, W.cell? ⟨b, off + j, none⟩ = some v ∧ Calls Tryz.prog 123 #[v, .pointer (some ⟨tb, 0, none⟩)] W fun e w' => e = .returned (.bool ((fs.getD j default) t)) ∧ Below W.heap.size W w') := Lib.hid fun j W hW hj => by
    obtain ⟨v, hv, hT⟩ := ht.bar hb hbp (.of_below hW) j (by omega)
    exact ⟨v, hv, one_any p t tb v _ W ((hW.cell (p := ⟨tb, 0, none⟩) htl).trans h0) ((hW.cell (p := ⟨tb, 1, none⟩) htl).trans h1) ((hW.cell (p := ⟨tb, 2, none⟩) htl).trans h2) ((hW.cell (p := ⟨tb, 3, none⟩) htl).trans h3) hT⟩
  have HIT : Hid (∀ j, j < n → (fs.getD j default) t = true → either fs t = true) := Lib.hid fun j hj h => by
    unfold either
    rw [List.any_eq_true]
    exact ⟨fs.getD j default, by rw [List.getD_eq_getElem?_getD, List.getElem?_eq_getElem (by omega)]; exact List.getElem_mem _, h⟩
  have MISS : Hid ((∀ j, j < n → (fs.getD j default) t = false) → either fs t = false) := Lib.hid fun h => by
    unfold either
    rw [List.any_eq_false]
    intro f hf
    obtain ⟨j, hj, rfl⟩ := List.getElem_of_mem hf
    have := h j (by omega)
    rw [List.getD_eq_getElem?_getD, List.getElem?_eq_getElem hj] at this
    rw [show fs[j] = (some fs[j]).getD default from rfl, this]
    simp
  generalize either fs t = R at HIT MISS ⊢
  clear ht h0 h1 h2 h3
  go_enter Tryz.func138, Tryz.ntmps138
  go_wp2
  go_loopw [5, 8] (fun _ s8 wr => ∃ j : Nat, j ≤ n ∧ s8 = .int .i64 j ∧ Below w.heap.size w wr ∧ Hid (∀ i, i < j → (fs.getD i default) t = false)) (fun _ s8 _ => match s8 with | .int _ m => n - m.toNat | _ => 0)
  case atStart => exact ⟨0, Nat.zero_le _, rfl, Below.refl _ _, Lib.hid fun i hi => by omega⟩
  case round =>
    obtain ⟨wo, hwo⟩ : ∃ wo : World, wo = wr := ⟨_, rfl⟩
    subst hwo
    obtain ⟨j, hj, rfl, hB, HM⟩ := hrel
    have BW := Lib.hid hB
    by_cases hjn : j < n
    · have hjz : ((j : Int) < (n : Int)) := by omega
      obtain ⟨tv, gt, hC⟩ := TST.out j wo hB hjn
      have hit := HIT.out j hjn
      clear hB
      cases hv : (fs.getD j default) t with
      | true =>
        rw [hv] at hC hit
        have HIT2 := Lib.hid (hit rfl)
        have HC := Lib.hid hC
        clear hv hC hit
        go_wp2_with ((refine wpList_call_slot (o := ⟨some 16, _, _, _, _, _⟩) rfl 11 _ _ rfl 123 #[.pointer (some ⟨tb, 0, none⟩)] rfl call123 (#[tv, .pointer (some ⟨tb, 0, none⟩)]) (by simp [go_sem]) ?_; refine HC.out.mono ?_; rintro e w1 ⟨rfl, hs⟩; refine ⟨_, rfl, ?_⟩; simp only [Act.put, List.setIfInBounds_toArray, List.set_cons_succ, List.set_cons_zero]; have HS := Lib.hid hs; clear hs))
        go_ret
        exact ⟨⟨_, rfl, by rw [HIT2.out]; simp⟩, BW.out.trans (HS.out.mono BW.out.size)⟩
      | false =>
        rw [hv] at hC
        have HV := Lib.hid hv
        have HC := Lib.hid hC
        clear hv hC hit
        go_wp2_with ((refine wpList_call_slot (o := ⟨some 16, _, _, _, _, _⟩) rfl 11 _ _ rfl 123 #[.pointer (some ⟨tb, 0, none⟩)] rfl call123 (#[tv, .pointer (some ⟨tb, 0, none⟩)]) (by simp [go_sem]) ?_; refine HC.out.mono ?_; rintro e w1 ⟨rfl, hs⟩; refine ⟨_, rfl, ?_⟩; simp only [Act.put, List.setIfInBounds_toArray, List.set_cons_succ, List.set_cons_zero]; have HS := Lib.hid hs; clear hs))
        go_roundw
        case rel =>
          refine ⟨j + 1, by omega, by first | rfl | simp, BW.out.trans (HS.out.mono BW.out.size), Lib.hid fun i hi => ?_⟩
          by_cases e : i = j
          · subst e; exact HV.out
          · exact HM.out i (by omega)
        case measure => simp; omega
    · have hjz : ¬ ((j : Int) < (n : Int)) := by omega
      clear hB
      go_wp2
      go_ret
      exact ⟨⟨_, rfl, by rw [MISS.out fun i hi => HM.out i (by omega)]; rfl⟩, BW.out⟩
theorem contT_any (p : Nat) (t : Tok) (tb : Nat) (fs : List Test) (b off n c : Nat) (w : World) (hn : fs.length = n) (hn1 : n ≤ 100) (htb : tb ≠ p) (hb : b < w.heap.size) (hbp : b ≠ p)
    (h0 : w.cell? ⟨tb, 0, none⟩ = some (.int .i64 t.kind)) (h1 : w.cell? ⟨tb, 1, none⟩ = some (.string t.text)) (h2 : w.cell? ⟨tb, 2, none⟩ = some (.int .i64 t.num)) (h3 : w.cell? ⟨tb, 3, none⟩ = some (.int .i64 t.at_)) (ht : TestsIn p w b off fs) :
    Calls Tryz.prog 122 #[.slice (some ⟨b, off, none⟩) n c, .func (.func 123) #[] #[.pointer (some ⟨tb, 0, none⟩)]] w fun e w' => e = .returned (.bool (either fs t)) ∧ Below w.heap.size w w' := by
  have K := Lib.hid (indexT_any p t tb fs b off n c w hn hn1 htb hb hbp h0 h1 h2 h3 ht)
  clear ht h0 h1 h2 h3
  generalize either fs t = R at K ⊢
  go_enter Tryz.func122, Tryz.ntmps122
  go_wp2_with fail
  refine K.out.mono ?_
  rintro e w1 ⟨⟨j, rfl, hj⟩, hb1⟩
  have HJ := Lib.hid hj
  have HB := Lib.hid hb1
  clear hj hb1
  go_wp2_with fail
  go_ret
  exact ⟨by rw [← HJ.out]; rfl, HB.out⟩
theorem either1_any (p : Nat) (t : Tok) (bb : Nat) (fs : List Test) (b off n c : Nat) (w : World) (hp : p < w.heap.size) (hn : fs.length = n) (hn1 : n ≤ 100) (hb : b < w.heap.size) (hbp : b ≠ p) (hx : w.cell? ⟨bb, 0, none⟩ = some (.slice (some ⟨b, off, none⟩) n c)) (ht : TestsIn p w b off fs) :
    Calls Tryz.prog 121 #[tokV t, .pointer (some ⟨bb, 0, none⟩)] w fun e w' => e = .returned (.bool (either fs t)) ∧ Below w.heap.size w w' := by
  have hbb := World.block_lt_of_cell? _ _ hx
  have hbel : Below w.heap.size w (w.alloc (.cells #[.int .i64 t.kind, .string t.text, .int .i64 t.num, .int .i64 t.at_] 45)) := (Below.refl _ _).alloc (Nat.le_refl _) _
  have hx2 := (hbel.cell (p := ⟨bb, 0, none⟩) hbb).trans hx
  obtain ⟨x0, x1, x2, x3⟩ := tok_box w t
  have K := Lib.hid (contT_any p t w.heap.size fs b off n c (w.alloc (.cells #[.int .i64 t.kind, .string t.text, .int .i64 t.num, .int .i64 t.at_] 45)) hn hn1 (by omega) (by simp; omega) hbp x0 x1 x2 x3 (ht.bar hb hbp (.of_below hbel)))
  have HB := Lib.hid hbel
  clear ht x0 x1 x2 x3 hbel
  unfold tokV
  go_enter Tryz.func121, Tryz.ntmps121
  go_wp2_with fail
  refine K.out.mono ?_
  rintro e w1 ⟨rfl, hb1⟩
  have HB1 := Lib.hid hb1
  clear hb1
  go_wp2_with fail
  go_ret
  exact ⟨rfl, HB.out.trans (HB1.out.mono HB.out.size)⟩
theorem either_any (p : Nat) (fs : List Test) (b off n c : Nat) (w : World) (hp : p < w.heap.size) (hn : fs.length = n) (hn1 : n ≤ 100) (hb : b < w.heap.size) (hbp : b ≠ p) (ht : TestsIn p w b off fs) :
    Calls Tryz.prog 91 #[.slice (some ⟨b, off, none⟩) n c] w fun e w' => ∃ v, e = .returned v ∧ IsTest p w' v (either fs) ∧ Below w.heap.size w w' := by
  have HT := Lib.hid ht
  clear ht
  go_enter Tryz.func91, Tryz.ntmps91
  go_wp2
  go_ret
  have hbel : Below w.heap.size w (w.alloc (.cells #[.slice (some ⟨b, off, none⟩) n c] 102)) := (Below.refl _ _).alloc (Nat.le_refl _) _
  refine ⟨_, rfl, ⟨121, _, rfl, call121, fun W hW t => ?_⟩, hbel⟩
  refine either1_any p t _ fs b off n c W ?_ hn hn1 ?_ hbp ?_ ?_
  · exact Nat.lt_of_lt_of_le hp (Nat.le_trans hbel.size hW.size)
  · exact Nat.lt_of_lt_of_le hb (Nat.le_trans hbel.size hW.size)
  · rw [hW.cell (a := ⟨w.heap.size, 0, none⟩) (by simp) (by show w.heap.size ≠ p; omega)]
    simp
  · exact HT.out.bar hb hbp ((Bar.of_below hbel).trans hW)
end Go.Proofs.YtggjckalmlploaaGreatDoor
