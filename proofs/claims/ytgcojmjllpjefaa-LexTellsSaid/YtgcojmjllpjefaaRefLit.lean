/- The contract of the document's own text: the string that is written from a place on. -/
import Derived.Test.YtgcojmjllpjefaaRefA
namespace Go.Proofs.Ytgcojmjllpjefaa
open Go.RowKit Go.Proofs.LexMath

def txtV (at_ : Nat) : Option (Bs × Nat) → ByteArray × Int
  | none => (⟨#[]⟩, -1)
  | some (t, m) => (bs t, ((at_ + 1 + m : Nat) : Int))
def XRes (x : ByteArray × Int) (W : World) (e : Ending) (w' : World) : Prop := e = .returned (.tuple #[.string x.1, .int .i64 x.2]) ∧ Below W.heap.size W w'
theorem ret_x {x : ByteArray × Int} {a : ByteArray} {b : Int} (h : x = (a, b)) : Ending.returned (.tuple #[.string a, .int .i64 b]) = .returned (.tuple #[.string x.1, .int .i64 x.2]) := by rw [h]
def TxAt (s : ByteArray) (at_ p n : Nat) (acc : Bs) : Prop :=
  at_ + 1 ≤ p ∧ p ≤ s.size ∧ acc.length = n ∧ n ≤ p ∧ str (s.data.toList.drop (at_ + 1)) = (str (s.data.toList.drop p)).map fun x => (acc ++ x.1, p - (at_ + 1) + x.2)
theorem tx_start (s : ByteArray) (at_ : Nat) (h : at_ < s.size) : TxAt s at_ (at_ + 1) 0 [] := by
  refine ⟨Nat.le_refl _, h, rfl, by omega, ?_⟩
  cases str (s.data.toList.drop (at_ + 1)) <;> simp
theorem tx_out (s : ByteArray) (at_ p n : Nat) (acc : Bs) (h : TxAt s at_ p n acc) (hp : ¬ p < s.size) : txtV at_ (str (s.data.toList.drop (at_ + 1))) = (⟨#[]⟩, -1) := by
  have e : s.data.toList.drop p = [] := List.drop_eq_nil_of_le (by show s.data.size ≤ _; have : s.size = s.data.size := rfl; omega)
  rw [h.2.2.2.2, e]; rfl
theorem tx_end (s : ByteArray) (at_ p n : Nat) (acc : Bs) (h : TxAt s at_ p n acc) (hp : p < s.size) (hc : iv s[p] = 34) : txtV at_ (str (s.data.toList.drop (at_ + 1))) = (bs acc, ((p + 1 : Nat) : Int)) := by
  rw [h.2.2.2.2, drop_at s p hp, str_end _ _ hc]
  obtain ⟨h1, h2, h3, h4, _⟩ := h
  simp only [txtV, Option.map_some, List.append_nil]
  congr 2
  omega
theorem tx_bad (s : ByteArray) (at_ p n : Nat) (acc : Bs) (h : TxAt s at_ p n acc) (hp : p < s.size) (hc : ¬ iv s[p] = 34) (hn : chr (s.data.toList.drop p) = none) : txtV at_ (str (s.data.toList.drop (at_ + 1))) = (⟨#[]⟩, -1) := by
  rw [h.2.2.2.2, str_bad _ hn (lit_no s p hp hc)]; rfl
theorem tx_step (s : ByteArray) (at_ p n : Nat) (acc : Bs) (b : UInt8) (k : Nat) (h : TxAt s at_ p n acc) (hp : p < s.size) (hc : ¬ iv s[p] = 34) (hn : chr (s.data.toList.drop p) = some (b, k)) : (1 ≤ k ∧ p + k ≤ s.size) ∧ TxAt s at_ (p + k) (n + 1) (acc ++ [b]) := by
  have hk := chr_size hn
  rw [List.length_drop] at hk
  have hl : s.data.toList.length = s.size := rfl
  obtain ⟨a1, a2, a3, a4, a5⟩ := h
  refine ⟨by omega, by omega, by omega, by simp; omega, by omega, ?_⟩
  rw [a5, str_step hn (lit_no s p hp hc), List.drop_drop]
  cases str (s.data.toList.drop (p + k)) with
  | none => rfl
  | some x =>
    simp
    omega
theorem chr_1 (s : ByteArray) (p : Nat) (hp : p < s.size) (hc : ¬ iv s[p] = 92) : chr (s.data.toList.drop p) = if pln (iv s[p]) = true then some (s[p], 1) else none := by
  rw [drop_at s p hp]
  simp [chr, hc]
theorem chr_2 (s : ByteArray) (p : Nat) (hp : p < s.size) (hc : iv s[p] = 92) (h : ¬ p + 1 < s.size) : chr (s.data.toList.drop p) = none := by
  rw [drop_at s p hp, List.drop_eq_nil_of_le (i := p + 1) (by show s.data.size ≤ _; have : s.size = s.data.size := rfl; omega)]
  simp [chr, hc]
theorem chr_3 (s : ByteArray) (p : Nat) (hp : p + 1 < s.size) (hc : iv s[p] = 92) : chr (s.data.toList.drop p) = chr (92 :: s[p + 1] :: s.data.toList.drop (p + 2)) := by
  rw [drop_at s p (by omega), drop_at s (p + 1) hp, show s[p] = 92 from iv_inj hc]
theorem chr_4 (s : ByteArray) (p : Nat) (hp : p + 1 < s.size) (hc : iv s[p] = 92) (h1 : ¬ iv s[p + 1] = 120) :
    chr (s.data.toList.drop p) = if iv s[p + 1] = 34 ∨ iv s[p + 1] = 92 then some (s[p + 1], 2) else if iv s[p + 1] = 110 then some (10, 2) else none := by
  rw [chr_3 s p hp hc]
  have e92 : iv 92 = 92 := rfl
  simp only [chr, e92, h1, if_true, if_false]
theorem chr_5 (s : ByteArray) (p : Nat) (hp : p + 1 < s.size) (hc : iv s[p] = 92) (h1 : iv s[p + 1] = 120) (h3 : ¬ p + 3 < s.size) : chr (s.data.toList.drop p) = none := by
  rw [chr_3 s p hp hc]
  have e92 : iv 92 = 92 := rfl
  have hl : (s.data.toList.drop (p + 2)).length ≤ 1 := by rw [List.length_drop]; show s.data.size - (p + 2) ≤ 1; have : s.size = s.data.size := rfl; omega
  generalize s.data.toList.drop (p + 2) = r at *
  simp only [chr, e92, h1, if_true]
  rw [if_neg (by omega), if_neg (by omega)]
  rcases r with _ | ⟨a, _ | ⟨b, r⟩⟩
  · rfl
  · rfl
  · simp at hl
theorem chr_6 (s : ByteArray) (p : Nat) (hp : p + 3 < s.size) (hc : iv s[p] = 92) (h1 : iv s[p + 1] = 120) :
    chr (s.data.toList.drop p) = if (0 : Int) ≤ hexv (iv s[p + 2]) ∧ (0 : Int) ≤ hexv (iv s[p + 3]) then some (UInt8.ofNat (16 * hexv (iv s[p + 2]) + hexv (iv s[p + 3])).toNat, 4) else none := by
  rw [chr_3 s p (by omega) hc, drop_at s (p + 2) (by omega), drop_at s (p + 2 + 1) (by omega)]
  have e92 : iv 92 = 92 := rfl
  simp only [chr, e92, h1, if_true]
  rw [if_neg (by omega), if_neg (by omega)]
theorem call62 (vs : Array Value) (w : World) : (callFunc 62 vs).run Try.prog w = .ok (.enter 62 vs) w := run_callFunc Try.func62 (by kernel_rfl) (by kernel_rfl) vs w
/-- append of bytes whose cells are given, as a step of a region that draws. -/
theorem step_append_cells {ops : Array Oper} {o : Oper} {a : Act} {K : Act → World → Prop} {Q : Exit → Act → World → Prop} {E : Prop} {w W : World} (cs : Array Value) (news : Bs) (hcs : cs = (byteVals news).toArray) (k : Nat) (hk : news.length = k) (s x : Operand) (hgd : o.guard = none) (ho : o.op = .call { callee := .builtin .append, args := #[s, x], argTypes := #[43, 43] })
    (base : Nat) (v : Value) (n : Nat) (l : Bs) (hs : a.eval s = v) (hown : BRow base w v n l) (hx : a.eval x = .slice (some ⟨w.heap.size, 0, none⟩) k k) (hm0 : 0 < k) (h63 : n + k ≤ 1000000) (hbase : base ≤ w.heap.size) (hW : Below base W w)
    (h : ∀ p cap w', BRow base w' (.slice p (n + k) cap) (n + k) (l ++ news) → Below base W w' → K (a.put o.dst (.slice p (n + k) cap)) w') :
    if Region.wanted o (yielded ops a.tmps) = true then Oper.wp Try.prog o a (w.alloc (.cells cs 5)) K Q else E := by
  subst hcs
  exact step_append_bytes news k hk s x hgd ho base v n l hs hown hx hm0 h63 hbase hW h
theorem row_none (w : World) : BRow w.heap.size (w.alloc (.cells #[] 5)) (.slice (some ⟨w.heap.size, 0, none⟩) 0 0) 0 [] := World.ownsRow_made w #[] 0 (Nat.le_refl _) (Nat.zero_le _) rfl
set_option maxRecDepth 100000 in
set_option maxHeartbeats 4000000 in
theorem text_any (s : ByteArray) (at_ : Nat) (w : World) (hat : at_ < s.size) (hs : s.size ≤ 100000) :
    Calls Try.prog 54 #[.string s, .int .i64 at_] w (XRes (txtV at_ (str (s.data.toList.drop (at_ + 1)))) w) := by
  have OUT := Lib.hid (tx_out s at_)
  have END := Lib.hid (tx_end s at_)
  have BAD := Lib.hid (tx_bad s at_)
  have STEP := Lib.hid (tx_step s at_)
  have START := Lib.hid (tx_start s at_ hat)
  have ROW := Lib.hid (row_none w)
  have BEL : Hid (Below w.heap.size w (w.alloc (.cells #[] 5))) := Lib.hid ((Below.refl _ _).alloc (Nat.le_refl _) _)
  generalize hx : txtV at_ (str (s.data.toList.drop (at_ + 1))) = x at *
  clear hx
  go_enter Try.func54, Try.ntmps54
  go_wp2
  go_loopw [6, 7] (fun t i wr => ∃ (p n : Nat) (acc : Bs), i = .int .i64 p ∧ TxAt s at_ p n acc ∧ BRow w.heap.size wr t n acc ∧ Below w.heap.size w wr) (fun _ i _ => s.size - (intOf i).toNat)
  case atStart => exact ⟨at_ + 1, 0, [], by go_num, START.out, ROW.out, BEL.out⟩
  case round =>
    obtain ⟨wo, hwo⟩ : ∃ wo : World, wo = wr := ⟨_, rfl⟩
    subst hwo
    obtain ⟨p, n, acc, rfl, hL, hR, hB⟩ := hrel
    obtain ⟨pp, cap, rfl⟩ := hR.form
    have hL' := hL
    obtain ⟨h1, h2, -, h3, -⟩ := hL'
    have HL := Lib.hid hL
    have HR := Lib.hid hR
    have hsz := hB.size
    have HB := Lib.hid hB
    clear hL hR hB
    by_cases hp : p < s.size
    · by_cases hc : iv s[p] = 34
      · have t1 := test_iv hc
        have E := Lib.hid (END.out p n acc HL.out hp hc)
        have hcv := conv_row HR.out
        clear hc
        go_wp2
        go_ret2
        exact ⟨ret_x E.out, HB.out⟩
      · have t1 := test_iv' hc
        by_cases h92 : iv s[p] = 92
        · have t2 := test_iv h92
          have t2' : ((s[p].toNat : Int) != 92) = false := by simpa [iv] using h92
          have u1 : decide ((s[p].toNat : Int) < 32) = false := by have : (s[p].toNat : Int) = 92 := h92; rw [this]; rfl
          have u2 : decide ((126 : Int) < (s[p].toNat : Int)) = false := by have : (s[p].toNat : Int) = 92 := h92; rw [this]; rfl
          by_cases hp1 : p + 1 < s.size
          · by_cases h120 : iv s[p + 1] = 120
            · have v1 := test_iv h120
              have v2 : ((s[p + 1].toNat : Int) == 34) = false := test_iv' (by omega)
              have v3 : ((s[p + 1].toNat : Int) == 92) = false := test_iv' (by omega)
              have v4 : ((s[p + 1].toNat : Int) == 110) = false := test_iv' (by omega)
              by_cases hp3 : p + 3 < s.size
              · have hch := chr_6 s p hp3 h92 h120
                have X2 := fun W => rhex_any (s[p + 2].toNat : Int) W
                have X3 := fun W => rhex_any (s[p + 3].toNat : Int) W
                have l2 := hexv_le (iv s[p + 2])
                have l3 := hexv_le (iv s[p + 3])
                unfold iv at hch l2 l3
                generalize hexv (s[p + 2].toNat : Int) = a at *
                generalize hexv (s[p + 3].toNat : Int) = b at *
                have XX2 := Lib.hid X2
                have XX3 := Lib.hid X3
                clear X2 X3
                by_cases ga : (0 : Int) ≤ a
                · by_cases gb : (0 : Int) ≤ b
                  · rw [if_pos ⟨ga, gb⟩] at hch
                    obtain ⟨hpk, hS⟩ := STEP.out p n acc _ _ HL.out hp hc hch
                    have hxv : iv (UInt8.ofNat (16 * a + b).toNat) = 16 * a + b := by rw [iv_ofNat _ (by omega)]; omega
                    generalize UInt8.ofNat (16 * a + b).toNat = xc at *
                    have S := Lib.hid hS
                    have HXV := Lib.hid hxv
                    have p2 : IntKind.i64.wrap ((p : Int) + 2) = (p : Int) + 2 := IntWalk.i64_in _ (by omega)
                    have p3 : IntKind.i64.wrap ((p : Int) + 3) = (p : Int) + 3 := IntWalk.i64_in _ (by omega)
                    clear hch hS hpk hc h92 h120 hxv
                    go_wp2_with fail
                    refine (XX2.out _).mono ?_
                    rintro e w1 ⟨rfl, rfl⟩
                    go_wp2_with fail
                    refine (XX3.out _).mono ?_
                    rintro e w1 ⟨rfl, rfl⟩
                    go_wp2
                    have R1 : Hid (BRow w.heap.size wo.drew (.slice pp n cap) n acc) := HR
                    have B1 := Lib.hid HB.out.drew
                    have n2 : ((p : Int) + 2).toNat = p + 2 := by omega
                    have n3 : ((p : Int) + 3).toNat = p + 3 := by omega
                    have m1 : IntKind.i64.wrap (16 * a) = 16 * a := IntWalk.i64_in _ (by omega)
                    have m2 : IntKind.i64.wrap (16 * a + b) = 16 * a + b := IntWalk.i64_in _ (by omega)
                    have m3 : IntKind.u8.wrap (16 * a + b) = 16 * a + b := IntWalk.u8_in _ (by omega)
                    (first | go_region_law ((first
                      | (refine step_call_fn (by rfl) 62 #[.tmp 97] #[5] (by rfl) call62 #[.int .u8 (s[p + 2].toNat : Nat)] (by simp [go_sem]) ?_; refine (XX2.out _).mono ?_; rintro e w2 ⟨rfl, rfl⟩; refine ⟨_, rfl, ?_⟩)
                      | (refine step_call_fn (by rfl) 62 #[.tmp 103] #[5] (by rfl) call62 #[.int .u8 (s[p + 3].toNat : Nat)] (by simp [go_sem]) ?_; refine (XX3.out _).mono ?_; rintro e w2 ⟨rfl, rfl⟩; refine ⟨_, rfl, ?_⟩)
                      | (refine step_append_cells _ [xc] (by simp [byteVals, HXV.out]) 1 rfl (.tmp 93) (.tmp 107) rfl rfl w.heap.size _ n acc rfl R1.out rfl (by omega) (by omega) (by simp; omega) B1.out ?_; intro p' cap' w2 h1 h2; have R2 := Lib.hid h1; have B2 := Lib.hid h2; clear h1 h2)
                      | fail)) | fail)
                    all_goals
                      go_wp2
                      go_roundw
                      case rel => exact ⟨p + 4, n + 1, _, by go_num, S.out, R2.out, B2.out⟩
                      case measure => simp [intOf]; omega
                  · rw [if_neg (fun g => gb g.2)] at hch
                    have E := Lib.hid (BAD.out p n acc HL.out hp hc hch)
                    clear hch hc h92 h120
                    go_wp2_with fail
                    refine (XX2.out _).mono ?_
                    rintro e w1 ⟨rfl, rfl⟩
                    go_wp2_with fail
                    refine (XX3.out _).mono ?_
                    rintro e w1 ⟨rfl, rfl⟩
                    go_wp2
                    go_ret2
                    exact ⟨ret_x E.out, HB.out⟩
                · rw [if_neg (fun g => ga g.1)] at hch
                  have E := Lib.hid (BAD.out p n acc HL.out hp hc hch)
                  clear hch hc h92 h120
                  go_wp2_with fail
                  refine (XX2.out _).mono ?_
                  rintro e w1 ⟨rfl, rfl⟩
                  go_wp2
                  go_ret2
                  exact ⟨ret_x E.out, HB.out⟩
              · have E := Lib.hid (BAD.out p n acc HL.out hp hc (chr_5 s p hp1 h92 h120 hp3))
                clear hc h92 h120
                go_wp2
                go_ret2
                exact ⟨ret_x E.out, HB.out⟩
            · have hch := chr_4 s p hp1 h92 h120
              have v1 := test_iv' h120
              by_cases h34 : iv s[p + 1] = 34
              · rw [if_pos (.inl h34)] at hch
                have v2 := test_iv h34
                obtain ⟨hpk, hS⟩ := STEP.out p n acc _ _ HL.out hp hc hch
                have S := Lib.hid hS
                clear hch hS hpk hc h92 h120 h34
                go_wp2_with ((at_builtin; refine append_bytes [s[p + 1]] 1 rfl (.tmp 55) (.tmp 57) rfl rfl w.heap.size _ n acc rfl HR.out rfl ?xa1 ?ya1 ?za1 HB.out ?_; (case xa1 => omega); (case ya1 => omega); (case za1 => omega); intro p' cap' w2 h1 h2; have R2 := Lib.hid h1; have B2 := Lib.hid h2; clear h1 h2))
                go_roundw
                case rel => exact ⟨p + 2, n + 1, _, by go_num, S.out, R2.out, B2.out⟩
                case measure => simp [intOf]; omega
              · have v2 := test_iv' h34
                by_cases h92' : iv s[p + 1] = 92
                · rw [if_pos (.inr h92')] at hch
                  have v3 := test_iv h92'
                  obtain ⟨hpk, hS⟩ := STEP.out p n acc _ _ HL.out hp hc hch
                  have S := Lib.hid hS
                  clear hch hS hpk hc h92 h120 h34 h92'
                  go_wp2_with ((at_builtin; refine append_bytes [s[p + 1]] 1 rfl (.tmp 55) (.tmp 57) rfl rfl w.heap.size _ n acc rfl HR.out rfl ?xa2 ?ya2 ?za2 HB.out ?_; (case xa2 => omega); (case ya2 => omega); (case za2 => omega); intro p' cap' w2 h1 h2; have R2 := Lib.hid h1; have B2 := Lib.hid h2; clear h1 h2))
                  go_roundw
                  case rel => exact ⟨p + 2, n + 1, _, by go_num, S.out, R2.out, B2.out⟩
                  case measure => simp [intOf]; omega
                · have v3 := test_iv' h92'
                  rw [if_neg (by omega)] at hch
                  by_cases h110 : iv s[p + 1] = 110
                  · rw [if_pos h110] at hch
                    have v4 := test_iv h110
                    obtain ⟨hpk, hS⟩ := STEP.out p n acc _ _ HL.out hp hc hch
                    have S := Lib.hid hS
                    clear hch hS hpk hc h92 h120 h34 h92' h110
                    go_wp2_with ((at_builtin; refine append_bytes [10] 1 rfl (.tmp 63) (.tmp 64) rfl rfl w.heap.size _ n acc rfl HR.out rfl ?xa3 ?ya3 ?za3 HB.out ?_; (case xa3 => omega); (case ya3 => omega); (case za3 => omega); intro p' cap' w2 h1 h2; have R2 := Lib.hid h1; have B2 := Lib.hid h2; clear h1 h2))
                    go_roundw
                    case rel => exact ⟨p + 2, n + 1, _, by go_num, S.out, R2.out, B2.out⟩
                    case measure => simp [intOf]; omega
                  · rw [if_neg h110] at hch
                    have v4 := test_iv' h110
                    have E := Lib.hid (BAD.out p n acc HL.out hp hc hch)
                    clear hch hc h92 h120 h34 h92' h110
                    go_wp2
                    go_ret2
                    exact ⟨ret_x E.out, HB.out⟩
          · have E := Lib.hid (BAD.out p n acc HL.out hp hc (chr_2 s p hp h92 hp1))
            clear hc h92
            go_wp2
            go_ret2
            exact ⟨ret_x E.out, HB.out⟩
        · have t2 := test_iv' h92
          have t2' : ((s[p].toNat : Int) != 92) = true := by simpa [iv] using h92
          have hch := chr_1 s p hp h92
          cases hpl : pln (iv s[p]) with
          | true =>
            rw [hpl, if_pos rfl] at hch
            have hq := hpl
            simp [pln] at hq
            have u1 : decide ((s[p].toNat : Int) < 32) = false := by simpa [iv] using hq.1
            have u2 : decide ((126 : Int) < (s[p].toNat : Int)) = false := by simpa [iv] using hq.2
            obtain ⟨hpk, hS⟩ := STEP.out p n acc _ _ HL.out hp hc hch
            have S := Lib.hid hS
            clear hpl hq hch hS hpk hc h92
            go_wp2_with ((at_builtin; refine append_bytes [s[p]] 1 rfl (.tmp 34) (.tmp 36) rfl rfl w.heap.size _ n acc rfl HR.out rfl ?xa ?ya ?za HB.out ?_; (case xa => omega); (case ya => omega); (case za => omega); intro p' cap' w2 h1 h2; have R2 := Lib.hid h1; have B2 := Lib.hid h2; clear h1 h2))
            go_roundw
            case rel => exact ⟨p + 1, n + 1, _, by go_num, S.out, R2.out, B2.out⟩
            case measure => simp [intOf]; omega
          | false =>
            rw [hpl, if_neg (by simp)] at hch
            have E := Lib.hid (BAD.out p n acc HL.out hp hc hch)
            have hq : ¬ (32 ≤ (s[p].toNat : Int) ∧ (s[p].toNat : Int) ≤ 126) := by
              rintro ⟨a, b⟩
              have : pln (iv s[p]) = true := by simp [pln, iv, a, b]
              rw [hpl] at this; cases this
            clear hch hpl hc h92
            by_cases g : (s[p].toNat : Int) < 32
            · have u1 : decide ((s[p].toNat : Int) < 32) = true := by simpa using g
              clear hq
              go_wp2
              go_ret2
              exact ⟨ret_x E.out, HB.out⟩
            · have u1 : decide ((s[p].toNat : Int) < 32) = false := by simpa using g
              have u2 : decide ((126 : Int) < (s[p].toNat : Int)) = true := by simp; omega
              clear hq
              go_wp2
              go_ret2
              exact ⟨ret_x E.out, HB.out⟩
    · have E := Lib.hid (OUT.out p n acc HL.out hp)
      go_wp2
      go_ret2
      exact ⟨ret_x E.out, HB.out⟩
end Go.Proofs.Ytgcojmjllpjefaa
