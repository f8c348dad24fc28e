/- The contract of Quote: a text as it is written. -/
import Derived.Test.YtgcojmjllpjefaaRight
namespace Go.Proofs.Ytgcojmjllpjefaa
open Go.RowKit Go.Proofs.LexMath

/-- append of bytes that lie in a new block, as a step of a region that draws. -/
theorem step_append_bytes {ops : Array Oper} {o : Oper} {a : Act} {K : Act → World → Prop} {Q : Exit → Act → World → Prop} {E : Prop} {w W : World} (news : Bs) (k : Nat) (hk : news.length = k) (s x : Operand) (hgd : o.guard = none) (ho : o.op = .call { callee := .builtin .append, args := #[s, x], argTypes := #[43, 43] })
    (base : Nat) (v : Value) (n : Nat) (l : Bs) (hs : a.eval s = v) (hown : BRow base w v n l) (hx : a.eval x = .slice (some ⟨w.heap.size, 0, none⟩) k k) (hm0 : 0 < k) (h63 : n + k ≤ 1000000) (hbase : base ≤ w.heap.size) (hW : Below base W w)
    (h : ∀ p cap w', BRow base w' (.slice p (n + k) cap) (n + k) (l ++ news) → Below base W w' → K (a.put o.dst (.slice p (n + k) cap)) w') :
    if Region.wanted o (yielded ops a.tmps) = true then Oper.wp Try.prog o a (w.alloc (.cells (byteVals news).toArray 5)) K Q else E := by
  have hw : Region.wanted o (yielded ops a.tmps) = true := by simp [Region.wanted, hgd]
  rw [if_pos hw]
  subst hk
  obtain ⟨i, hi⟩ := infoByte
  refine wp_append_own (w.alloc (.cells (byteVals news).toArray 5)) s x 43 ho base 5 i _ 1 1 Try.underlying43 hi.1 hi.2.1 hi.2.2.1 hi.2.2.2 rfl (by decide) v n (byteVals l) hs (hown.alloc _) ⟨w.heap.size, 0, none⟩ news.length news.length (byteVals news) hx (by rw [byteVals_len]; omega) ?_ (bytes_one news) (by unfold maxLen; omega) (by omega) (by simp; omega) ?_
  · intro j u hj
    have h0 := heap_alloc_new w (.cells (byteVals news).toArray 5)
    rw [Go.WideShapes.add_plain]
    unfold World.cell?
    rw [h0]
    simpa using hj
  · intro v' w' h2 h3 _
    obtain ⟨p, cap, rfl⟩ := h2.form
    refine h p cap w' (by unfold BRow; rw [byteVals_append]; exact h2) ?_
    exact (hW.alloc hbase _).grown h3 (by simp; omega) fun k hk => (hown.lt k hk).1
abbrev hexB : ByteArray := ⟨#[48, 49, 50, 51, 52, 53, 54, 55, 56, 57, 97, 98, 99, 100, 101, 102]⟩
theorem hexB_fin : ∀ j : Fin 16, hexB[j.val]'(j.isLt) = qbyte.hexd (j.val : Int) := by decide
theorem hexB_at (n : Int) (h0 : 0 ≤ n) (h : n.toNat < 16) : hexB[n.toNat]'h = qbyte.hexd n := by
  have := hexB_fin ⟨n.toNat, h⟩
  rw [show ((n.toNat : Nat) : Int) = n by omega] at this
  exact this
set_option maxRecDepth 100000 in
theorem and_fin : ∀ a : Fin 256, bits .and .u8 (a.val : Int) 15 = (a.val : Int) % 16 := by decide +kernel
theorem and_15 (c : UInt8) : bits .and .u8 (c.toNat : Int) 15 = (c.toNat : Int) % 16 := and_fin ⟨c.toNat, c.toNat_lt⟩
theorem row_start (w : World) : BRow w.heap.size (w.alloc (.cells #[.int .u8 34] 5)) (.slice (some ⟨w.heap.size, 0, none⟩) 1 1) 1 [34] :=
  ⟨rfl, .inr ⟨w.heap.size, 1, #[.int .u8 34], rfl, Nat.le_refl _, heap_alloc_new w _, Nat.le_refl _, by unfold maxLen; omega, rfl, rfl⟩⟩
/-- How far a text has been written. -/
def QAt (s : ByteArray) (i n : Nat) (acc : Bs) : Prop := i ≤ s.size ∧ n ≤ 4 * i + 1 ∧ acc.length = n ∧ acc = 34 :: qbody (s.data.toList.take i)
theorem q_start (s : ByteArray) : QAt s 0 1 [34] := ⟨Nat.zero_le _, by omega, rfl, by simp [qbody]⟩
theorem q_end (s : ByteArray) (i n : Nat) (acc : Bs) (h : QAt s i n acc) (hi : ¬ i < s.size) : acc ++ [34] = quote s.data.toList := by
  obtain ⟨h1, _, _, h2⟩ := h
  have hl : s.data.toList.length = s.size := rfl
  rw [h2, List.take_of_length_le (by omega)]
  rfl
theorem q_step (s : ByteArray) (i n : Nat) (acc x : Bs) (k : Nat) (h : QAt s i n acc) (hi : i < s.size) (hx : qbyte s[i] = x) (hk : x.length = k) : QAt s (i + 1) (n + k) (acc ++ x) := by
  obtain ⟨h1, h2, h3, h4⟩ := h
  have hq := qbyte_len s[i]
  rw [hx, hk] at hq
  have hl : i < s.data.toList.length := hi
  refine ⟨hi, by omega, by simp; omega, ?_⟩
  rw [List.take_succ_eq_append_getElem hl, h4, show s.data.toList[i] = s[i] from rfl]
  simp [qbody, hx]
theorem q_1 (c : UInt8) (h : iv c = 34 ∨ iv c = 92) : qbyte c = [92, c] := by simp [qbyte, h]
theorem q_2 (c : UInt8) (h : iv c = 10) : qbyte c = [92, 110] := by
  have a : ¬ (iv c = 34 ∨ iv c = 92) := by omega
  simp [qbyte, h]
theorem q_3 (c : UInt8) (h1 : ¬ (iv c = 34 ∨ iv c = 92)) (h2 : ¬ iv c = 10) (h3 : pln (iv c) = true) : qbyte c = [c] := by simp [qbyte, h1, h2, h3]
theorem q_4 (c : UInt8) (h1 : ¬ (iv c = 34 ∨ iv c = 92)) (h2 : ¬ iv c = 10) (h3 : pln (iv c) = false) : qbyte c = [92, 120, qbyte.hexd (iv c / 16), qbyte.hexd (iv c % 16)] := by simp [qbyte, h1, h2, h3]
theorem q_hex (s : ByteArray) (i n : Nat) (acc : Bs) (h : QAt s i n acc) (hi : i < s.size) (c : UInt8) (hc : s[i] = c) (h1 : ¬ (iv c = 34 ∨ iv c = 92)) (h2 : ¬ iv c = 10) (h3 : pln (iv c) = false) (g1 : ((c.toNat : Int) / 16).toNat < 16) (g2 : ((c.toNat : Int) % 16).toNat < 16) :
    QAt s (i + 1) (n + 4) (acc ++ [92, 120, hexB[((c.toNat : Int) / 16).toNat]'g1, hexB[((c.toNat : Int) % 16).toNat]'g2]) := by
  rw [hexB_at _ (by omega) g1, hexB_at _ (by omega) g2]
  refine q_step s i n acc _ 4 h hi ?_ rfl
  rw [hc]
  exact q_4 c h1 h2 h3
set_option maxRecDepth 100000 in
set_option maxHeartbeats 4000000 in
theorem quote_any (s : ByteArray) (w : World) (hs : s.size ≤ 10000) : Calls Try.prog 26 #[.string s] w fun e w' => e = .returned (.string (bs (quote s.data.toList))) ∧ Below w.heap.size w w' := by
  have START := Lib.hid (q_start s)
  have END := Lib.hid (q_end s)
  have STEP := Lib.hid (q_step s)
  have ROW := Lib.hid (row_start w)
  have BEL : Hid (Below w.heap.size w (w.alloc (.cells #[.int .u8 34] 5))) := Lib.hid ((Below.refl _ _).alloc (Nat.le_refl _) _)
  generalize quote s.data.toList = q at *
  go_enter Try.func26, Try.ntmps26
  go_wp2
  go_loopw [3, 9] (fun t i wr => ∃ (k n : Nat) (acc : Bs), i = .int .i64 k ∧ QAt s k n acc ∧ BRow w.heap.size wr t n acc ∧ Below w.heap.size w wr) (fun _ i _ => s.size - (intOf i).toNat)
  case atStart => exact ⟨0, 1, [34], by go_num, START.out, ROW.out, BEL.out⟩
  case round =>
    obtain ⟨wo, hwo⟩ : ∃ wo : World, wo = wr := ⟨_, rfl⟩
    subst hwo
    obtain ⟨k, n, acc, rfl, hL, hR, hB⟩ := hrel
    obtain ⟨pp, cap, rfl⟩ := hR.form
    have hL' := hL
    obtain ⟨h1, h2, -⟩ := hL'
    have HL := Lib.hid hL
    have HR := Lib.hid hR
    have hsz := hB.size
    have HB := Lib.hid hB
    clear hL hR hB
    by_cases hk : k < s.size
    · have hb : (s[k].toNat : Int) ≤ 255 := by have := s[k].toNat_lt; omega
      by_cases g1 : iv s[k] = 34
      · have t1 := test_iv g1
        have Q := Lib.hid (STEP.out k n acc _ 2 HL.out hk (q_1 s[k] (.inl g1)) rfl)
        clear g1
        go_wp2_with ((at_builtin; refine append_bytes [92, s[k]] 2 rfl (.tmp 31) (.tmp 33) rfl rfl w.heap.size _ n acc rfl HR.out rfl ?x1 ?y1 ?z1 HB.out ?_; (case x1 => omega); (case y1 => omega); (case z1 => omega); intro p' cap' w2 h1 h2; have R2 := Lib.hid h1; have B2 := Lib.hid h2; clear h1 h2))
        go_roundw
        case rel => exact ⟨k + 1, n + 2, _, by go_num, Q.out, R2.out, B2.out⟩
        case measure => simp [intOf]; omega
      · have t1 := test_iv' g1
        by_cases g2 : iv s[k] = 92
        · have t2 := test_iv g2
          have Q := Lib.hid (STEP.out k n acc _ 2 HL.out hk (q_1 s[k] (.inr g2)) rfl)
          clear g1 g2
          go_wp2_with ((at_builtin; refine append_bytes [92, s[k]] 2 rfl (.tmp 31) (.tmp 33) rfl rfl w.heap.size _ n acc rfl HR.out rfl ?x2 ?y2 ?z2 HB.out ?_; (case x2 => omega); (case y2 => omega); (case z2 => omega); intro p' cap' w2 h1 h2; have R2 := Lib.hid h1; have B2 := Lib.hid h2; clear h1 h2))
          go_roundw
          case rel => exact ⟨k + 1, n + 2, _, by go_num, Q.out, R2.out, B2.out⟩
          case measure => simp [intOf]; omega
        · have t2 := test_iv' g2
          by_cases g3 : iv s[k] = 10
          · have t3 := test_iv g3
            have Q := Lib.hid (STEP.out k n acc _ 2 HL.out hk (q_2 s[k] g3) rfl)
            clear g1 g2 g3
            go_wp2_with ((at_builtin; refine append_bytes [92, 110] 2 rfl (.tmp 38) (.tmp 39) rfl rfl w.heap.size _ n acc rfl HR.out rfl ?x3 ?y3 ?z3 HB.out ?_; (case x3 => omega); (case y3 => omega); (case z3 => omega); intro p' cap' w2 h1 h2; have R2 := Lib.hid h1; have B2 := Lib.hid h2; clear h1 h2))
            go_roundw
            case rel => exact ⟨k + 1, n + 2, _, by go_num, Q.out, R2.out, B2.out⟩
            case measure => simp [intOf]; omega
          · have t3 := test_iv' g3
            have C := fun W => plain_any (s[k].toNat : Int) W
            cases hp : pln (iv s[k]) with
            | true =>
              have Q := Lib.hid (STEP.out k n acc _ 1 HL.out hk (q_3 s[k] (by omega) g3 hp) rfl)
              rw [show pln (s[k].toNat : Int) = true from hp] at C
              have CC := Lib.hid C
              clear g1 g2 g3 hp C
              go_wp2_with fail
              refine (CC.out _).mono ?_
              rintro e w1 ⟨rfl, rfl⟩
              go_wp2_with ((at_builtin; refine append_bytes [s[k]] 1 rfl (.tmp 44) (.tmp 46) rfl rfl w.heap.size _ n acc rfl HR.out rfl ?x4 ?y4 ?z4 HB.out ?_; (case x4 => omega); (case y4 => omega); (case z4 => omega); intro p' cap' w2 h1 h2; have R2 := Lib.hid h1; have B2 := Lib.hid h2; clear h1 h2))
              go_roundw
              case rel => exact ⟨k + 1, n + 1, _, by go_num, Q.out, R2.out, B2.out⟩
              case measure => simp [intOf]; omega
            | false =>
              have d1 : 0 ≤ (s[k].toNat : Int) / 16 ∧ (s[k].toNat : Int) / 16 < 16 := by omega
              have d2 : 0 ≤ (s[k].toNat : Int) % 16 ∧ (s[k].toNat : Int) % 16 < 16 := by omega
              have p1 : ((s[k].toNat : Int) / 16).toNat < 16 := by omega
              have p2 : ((s[k].toNat : Int) % 16).toNat < 16 := by omega
              have Q := Lib.hid (q_hex s k n acc HL.out hk s[k] rfl (by omega) g3 hp p1 p2)
              have ha := and_15 s[k]
              rw [show pln (s[k].toNat : Int) = false from hp] at C
              have CC := Lib.hid C
              have P1 := Lib.hid p1
              have P2 := Lib.hid p2
              clear g1 g2 g3 hp C
              go_wp2_with fail
              refine (CC.out _).mono ?_
              rintro e w1 ⟨rfl, rfl⟩
              go_wp2
              have R1 : Hid (BRow w.heap.size wo.drew (.slice pp n cap) n acc) := HR
              have B1 := Lib.hid HB.out.drew
              (first | go_region_law ((first | (refine step_append_bytes [92, 120, hexB[((s[k].toNat : Int) / 16).toNat]'P1.out, hexB[((s[k].toNat : Int) % 16).toNat]'P2.out] 4 rfl (.tmp 15) (.tmp 22) rfl rfl w.heap.size _ n acc rfl R1.out rfl (by omega) (by omega) (by simp; omega) B1.out ?_; intro p' cap' w2 h1 h2; have R2 := Lib.hid h1; have B2 := Lib.hid h2; clear h1 h2) | fail)) | fail)
              all_goals
                go_wp2
                go_roundw
                case rel => exact ⟨k + 1, n + 4, _, by go_num, Q.out, R2.out, B2.out⟩
                case measure => simp [intOf]; omega
    · have E := Lib.hid (END.out k n acc HL.out hk)
      go_wp2_with ((at_builtin; refine append_bytes [34] 1 rfl (.tmp 49) (.tmp 50) rfl rfl w.heap.size _ n acc rfl HR.out rfl ?x5 ?y5 ?z5 HB.out ?_; (case x5 => omega); (case y5 => omega); (case z5 => omega); intro p' cap' w2 h1 h2; have R2 := Lib.hid h1; have B2 := Lib.hid h2; have hcv := conv_row h1; clear h1 h2))
      go_ret
      rw [E.out]
      exact ⟨rfl, B2.out⟩
end Go.Proofs.Ytgcojmjllpjefaa
