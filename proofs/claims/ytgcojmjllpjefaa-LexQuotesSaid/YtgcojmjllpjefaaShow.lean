/- The contract of Show: the text of tokens, or that one may not be. -/
import Derived.Test.YtgcojmjllpjefaaWord
namespace Go.Proofs.Ytgcojmjllpjefaa
open Go.RowKit Go.Proofs.LexMath

def allR (ts : List Tok) : Bool := ts.all rightB
def showV (ts : List Tok) : ByteArray × Int := if allR ts = true then (bs (showL ts), 0) else (⟨#[]⟩, 34)
/-- How far tokens have been shown. -/
def SAt (ts : List Tok) (k n : Nat) (acc : Bs) : Prop := k ≤ ts.length ∧ n ≤ k * 4021 ∧ acc.length = n ∧ acc = showL (ts.take k) ∧ allR (ts.take k) = true
theorem get_tok (ts : List Tok) (k : Nat) (hk : k < ts.length) : ts.getD k default = ts[k] := by simp [List.getD_eq_getElem?_getD, List.getElem?_eq_getElem hk]
theorem s_start (ts : List Tok) : SAt ts 0 0 [] := ⟨Nat.zero_le _, by omega, rfl, rfl, rfl⟩
theorem s_end (ts : List Tok) (k n : Nat) (acc : Bs) (h : SAt ts k n acc) (hk : ¬ k < ts.length) : showV ts = (bs acc, 0) := by
  obtain ⟨h1, h2, h3, h4, h5⟩ := h
  rw [List.take_of_length_le (by omega)] at h4 h5
  rw [showV, if_pos h5, h4]
theorem s_bad (ts : List Tok) (k : Nat) (hk : k < ts.length) (hr : rightB (ts.getD k default) = false) : showV ts = (⟨#[]⟩, 34) := by
  have : allR ts = false := by
    rw [Bool.eq_false_iff]
    intro h
    unfold allR at h
    rw [List.all_eq_true] at h
    have := h ts[k] (List.getElem_mem hk)
    rw [get_tok ts k hk] at hr
    rw [hr] at this; cases this
  simp [showV, this]
theorem s_step (ts : List Tok) (hs : ∀ t ∈ ts, t.text.size ≤ 1000) (k n : Nat) (acc : Bs) (h : SAt ts k n acc) (hk : k < ts.length) (hr : rightB (ts.getD k default) = true) :
    (wordR (ts.getD k default) ≠ [] ∧ (wordR (ts.getD k default)).length ≤ 4020) ∧ SAt ts (k + 1) (n + (if 0 < k then 1 else 0) + (wordR (ts.getD k default)).length) (acc ++ (if 0 < k then [32] else []) ++ wordR (ts.getD k default)) := by
  rw [get_tok ts k hk] at hr ⊢
  have ht : ts.take (k + 1) = ts.take k ++ [ts[k]] := List.take_succ_eq_append_getElem hk
  have e : wordR ts[k] = wordL ts[k] := by simp [wordR, hr]
  have hl := wordL_len ts[k] hr 1000 (hs _ (List.getElem_mem hk))
  obtain ⟨h1, h2, h3, h4, h5⟩ := h
  rw [e]
  refine ⟨⟨wordL_ne _ hr, by omega⟩, hk, ?_, ?_, ?_, ?_⟩
  · split <;> omega
  · by_cases g : 0 < k
    · simp [g]; omega
    · simp [g]; omega
  · rw [ht]
    by_cases g : 0 < k
    · have hne : ts.take k ≠ [] := by
        intro h
        have := congrArg List.length h
        rw [List.length_take, List.length_nil] at this
        omega
      rw [showL_snoc _ _ hne, h4]
      simp [g]
    · obtain rfl : k = 0 := by omega
      simp [showL, rest] at h4 ⊢
      exact h4
  · rw [ht]
    unfold allR at h5 ⊢
    rw [List.all_append, h5]
    simp [hr]
def ShRet (x : ByteArray × Int) (W : World) (e : Ending) (w' : World) : Prop := e = .returned (.tuple #[.string x.1, .int .i64 x.2]) ∧ Below W.heap.size W w'
theorem ret_sh {x : ByteArray × Int} {a : ByteArray} {b : Int} (h : x = (a, b)) : Ending.returned (.tuple #[.string a, .int .i64 b]) = .returned (.tuple #[.string x.1, .int .i64 x.2]) := by rw [h]
theorem lshow_zero (p : Option Addr) (c : Nat) (w : World) : Calls Try.prog 15 #[.slice p 0 c] w (ShRet (showV []) w) := by
  have hcv : (convert 43 9 (.slice none 0 0)).run Try.prog w = .ok (.string ⟨#[]⟩) w := conv_row (BRow.nil 0 w)
  go_enter Try.func15, Try.ntmps15
  go_wp2
  refine wp_loop_rounds 1 ?_
  rw [rounds_succ]
  go_wp2
  go_ret2
  exact ⟨rfl, Below.refl _ _⟩
set_option maxHeartbeats 4000000 in
theorem lshow_some (b off c m : Nat) (ts : List Tok) (w : World) (hm : ts.length = m) (hc : Hid (CellsIn w b off (tokCells ts))) (hb : b < w.heap.size) (hn : m ≤ 4000) (hs : ∀ t ∈ ts, t.text.size ≤ 1000) :
    Calls Try.prog 15 #[.slice (some ⟨b, off, none⟩) m c] w (ShRet (showV ts) w) := by
  have START := Lib.hid (s_start ts)
  have END := Lib.hid (s_end ts)
  have BAD := Lib.hid (s_bad ts)
  have STEP := Lib.hid (s_step ts hs)
  have HT := Lib.hid hs
  have HM := Lib.hid hm
  clear hs hm
  generalize showV ts = x at *
  go_enter Try.func15, Try.ntmps15
  go_wp2
  go_loopw [4, 10] (fun t i wr => ∃ (k n : Nat) (acc : Bs), i = .int .i64 k ∧ SAt ts k n acc ∧ BRow w.heap.size wr t n acc ∧ Below w.heap.size w wr) (fun _ i _ => m - (intOf i).toNat)
  case atStart => exact ⟨0, 0, [], by go_num, START.out, BRow.nil _ _, Below.refl _ _⟩
  case round =>
    obtain ⟨wo, hwo⟩ : ∃ wo : World, wo = wr := ⟨_, rfl⟩
    subst hwo
    obtain ⟨k, n, acc, rfl, hL, hR, hB⟩ := hrel
    obtain ⟨pp, cap, rfl⟩ := hR.form
    have hL' := hL
    obtain ⟨h1, h2, -⟩ := hL'
    rw [HM.out] at h1
    have HL := Lib.hid hL
    have HR := Lib.hid hR
    have hsz := hB.size
    have HB := Lib.hid hB
    clear hL hR hB
    by_cases hk : k < m
    · have hk' : k < ts.length := by rw [HM.out]; exact hk
      have q0 := hc.out.tok k hk'
      rw [← HB.out.cell (p := ⟨b, off + k * 4, none⟩) hb, ← HB.out.cell (p := ⟨b, off + k * 4 + 1, none⟩) hb, ← HB.out.cell (p := ⟨b, off + k * 4 + 2, none⟩) hb, ← HB.out.cell (p := ⟨b, off + k * 4 + 3, none⟩) hb] at q0
      have hts : (ts.getD k default).text.size ≤ 1000 := by rw [get_tok ts k hk']; exact HT.out _ (List.getElem_mem hk')
      have W1 := fun W => word_any (ts.getD k default) W (by omega)
      have S1 := STEP.out k n acc HL.out hk'
      have B1 := BAD.out k hk'
      clear hk'
      generalize ts.getD k default = t at *
      cases hr : rightB t with
      | false =>
        have E := Lib.hid (B1 hr)
        have e0 := word_no t hr
        rw [e0] at W1
        obtain ⟨tk, tt, tn, ta⟩ := t
        have WW := Lib.hid W1
        obtain ⟨q0, q1, q2, q3⟩ := q0
        simp only at q0 q1 q2 q3
        unfold tokV at WW
        clear hr S1 B1 e0 W1
        go_wp2_with fail
        refine (WW.out _).mono ?_
        rintro e w2 ⟨rfl, b2⟩
        have hB : w.heap.size ≤ wo.heap.size := hsz
        have B2 := Lib.hid ((HB.out.alloc hB (.cells #[.int .i64 tk, .string tt, .int .i64 tn, .int .i64 ta] 37)).trans (b2.mono (by simp; omega)))
        clear b2
        go_wp2
        go_ret2
        exact ⟨ret_sh E.out, B2.out⟩
      | true =>
        obtain ⟨⟨hw0, hwl⟩, hS⟩ := S1 hr
        generalize wordR t = x1 at *
        have e1 : (bs x1).toList.isEmpty = false := by
          rw [ByteArray.toList_eq, bs_list]
          simpa using hw0
        have e2 : ¬ (bs x1).toList = [] := by
          intro h; rw [h] at e1; cases e1
        have hsz1 : (bs x1).size = x1.length := by simp [bs, ByteArray.size]
        have hx1 : (bs x1).data.toList = x1 := bs_list x1
        obtain ⟨tk, tt, tn, ta⟩ := t
        have WW := Lib.hid W1
        obtain ⟨q0, q1, q2, q3⟩ := q0
        simp only at q0 q1 q2 q3
        unfold tokV at WW
        generalize bs x1 = y1 at *
        have hy : y1.size ≤ 4020 := by omega
        have HX := Lib.hid hx1
        have HZ := Lib.hid hsz1
        clear hr B1 W1 hw0 hwl hx1 hsz1
        by_cases hk0 : 0 < k
        · rw [if_pos hk0, if_pos hk0] at hS
          have SS := Lib.hid hS
          clear hS
          go_wp2_with fail
          refine (WW.out _).mono ?_
          rintro e w2 ⟨rfl, b2⟩
          have hB : w.heap.size ≤ wo.heap.size := hsz
          have B2 := Lib.hid ((HB.out.alloc hB (.cells #[.int .i64 tk, .string tt, .int .i64 tn, .int .i64 ta] 37)).trans (b2.mono (by simp; omega)))
          have R2 := Lib.hid (HR.out.after (((Below.refl _ _).alloc (Nat.le_refl _) (.cells #[.int .i64 tk, .string tt, .int .i64 tn, .int .i64 ta] 37)).trans (b2.mono (by simp))))
          have hsz2 := b2.size
          simp at hsz2
          clear b2
          go_wp2_with ((first
            | (at_builtin; refine append_bytes [32] 1 rfl (.tmp 21) (.tmp 22) rfl rfl w.heap.size _ n acc rfl R2.out rfl ?xa ?ya ?za B2.out ?_; (case xa => omega); (case ya => omega); (case za => omega); intro p' cap' w3 h1 h2; have R3 := Lib.hid h1; have B3 := Lib.hid h2; have hsz3 := B3.out.size; clear h1 h2)
            | (at_builtin; refine append_text y1 (.tmp 24) (.tmp 25) rfl rfl w.heap.size _ _ _ rfl R3.out rfl ?xb ?yb B3.out ?_; (case xb => omega); (case yb => omega); intro p'' cap'' w4 h1 h2; have R4 := Lib.hid h1; have B4 := Lib.hid h2; clear h1 h2)))
          go_roundw
          case rel => exact ⟨k + 1, n + 1 + y1.size, _, by go_num, by rw [HZ.out]; exact SS.out, by rw [← HX.out]; exact R4.out, B4.out⟩
          case measure => simp [intOf]; omega
        · rw [if_neg hk0, if_neg hk0, List.append_nil, Nat.add_zero] at hS
          have SS := Lib.hid hS
          clear hS
          go_wp2_with fail
          refine (WW.out _).mono ?_
          rintro e w2 ⟨rfl, b2⟩
          have hB : w.heap.size ≤ wo.heap.size := hsz
          have B2 := Lib.hid ((HB.out.alloc hB (.cells #[.int .i64 tk, .string tt, .int .i64 tn, .int .i64 ta] 37)).trans (b2.mono (by simp; omega)))
          have R2 := Lib.hid (HR.out.after (((Below.refl _ _).alloc (Nat.le_refl _) (.cells #[.int .i64 tk, .string tt, .int .i64 tn, .int .i64 ta] 37)).trans (b2.mono (by simp))))
          have hsz2 := b2.size
          simp at hsz2
          clear b2
          go_wp2_with ((at_builtin; refine append_text y1 (.tmp 24) (.tmp 25) rfl rfl w.heap.size _ n acc rfl R2.out rfl ?xc ?yc B2.out ?_; (case xc => omega); (case yc => omega); intro p'' cap'' w4 h1 h2; have R4 := Lib.hid h1; have B4 := Lib.hid h2; clear h1 h2))
          go_roundw
          case rel => exact ⟨k + 1, n + y1.size, _, by go_num, by rw [HZ.out]; exact SS.out, by rw [← HX.out]; exact R4.out, B4.out⟩
          case measure => simp [intOf]; omega
    · have E := Lib.hid (END.out k n acc HL.out (by rw [HM.out]; exact hk))
      have hcv := conv_row HR.out
      go_wp2
      go_ret2
      exact ⟨ret_sh E.out, HB.out⟩
theorem lshow_any (v : Value) (ts : List Tok) (w : World) (h : ToksAt w v ts) (hn : ts.length ≤ 4000) (hs : ∀ t ∈ ts, t.text.size ≤ 1000) : Calls Try.prog 15 #[v] w (ShRet (showV ts) w) := by
  obtain ⟨_, p, c, rfl, _, _, hp⟩ := h
  rcases ts with _ | ⟨x, ts⟩
  · exact lshow_zero p c w
  · obtain ⟨b, off, rfl, hb, hc⟩ := hp (by simp)
    exact lshow_some b off c _ (x :: ts) w rfl hc hb hn hs
end Go.Proofs.Ytgcojmjllpjefaa
