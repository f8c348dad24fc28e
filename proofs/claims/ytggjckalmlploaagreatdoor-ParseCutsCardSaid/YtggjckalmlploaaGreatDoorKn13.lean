/- Texts of this seat, one behind the other: LxBytes, LxLiteral, LxIsWord. -/
import Derived.Test.YtggjckalmlploaaGreatDoorKn12
import Derived.Maps.AppendAt
import Derived.Lib.AppendStr
import Derived.Test.YtggjckalmlploaaGreatDoorKn11
/- Rows of the call's own: bytes and tokens that are gathered, append to them, and the string that the bytes are. -/
namespace Go
open Go.RowKit
/-- append of elements that lie in a new block, to a row of the call's own. -/
theorem wpList_append_new {P : Program} {ops : Array Oper} {rest : List Oper} {o : Oper} {a : Act} {Q : Exit → Act → World → Prop} {w W : World} (s x : Operand) (t : TypeId)
    (base : Nat) (e : TypeId) (i : TypeInfo) (z : Value) (size bytes : Nat) (ht : P.underlying t = some (.slice e)) (hi : P.info? e = some i ∧ i.zero = some z ∧ i.size = size ∧ i.bytes = bytes) (hzs : z.cells.size = size) (hsz : 0 < size)
    (hgd : o.guard = none) (ho : o.op = .call { callee := .builtin .append, args := #[s, x], argTypes := #[t, t] })
    (v : Value) (n : Nat) (xs : List Value) (hs : a.eval s = v) (hown : w.ownsRow base e size v n xs)
    (m : Nat) (news : List Value) (hx : a.eval x = .slice (some ⟨w.heap.size, 0, none⟩) m m) (hl : news.length = m * size) (h1 : ∀ u ∈ news, u.oneCell' = true)
    (hm0 : 0 < m) (h63 : n + m ≤ 100000000) (hby : bytes ≤ 100) (hbase : base ≤ w.heap.size) (hW : Below base W w)
    (h : ∀ p cap w', w'.ownsRow base e size (.slice p (n + m) cap) (n + m) (xs ++ news) → Below base W w' → wpList P ops Q rest (a.put o.dst (.slice p (n + m) cap)) w') :
    wpList P ops Q (o :: rest) a (w.alloc (.cells news.toArray e)) := by
  have hb : (n + m) * bytes ≤ 140737488355328 := Nat.le_trans (Nat.mul_le_mul h63 hby) (by omega)
  refine wpList_append_own (w.alloc (.cells news.toArray e)) hgd s x t ho base e i z size bytes ht hi.1 hi.2.1 hi.2.2.1 hi.2.2.2 hzs hsz v n xs hs (hown.alloc _) ⟨w.heap.size, 0, none⟩ m m news hx hl ?_ h1 (by unfold maxLen; omega) hb (by simp; omega) ?_
  · intro j u hj
    have h0 := heap_alloc_new w (.cells news.toArray e)
    rw [Go.WideShapes.add_plain]
    unfold World.cell?
    rw [h0]
    simpa using hj
  · intro v' w' h2 h3 _
    obtain ⟨hl', hh⟩ := h2
    rcases hh with ⟨_, h0⟩ | ⟨g, cap, cur, rfl, hr⟩
    · omega
    · refine h _ cap w' ⟨hl', .inr ⟨g, cap, cur, rfl, hr⟩⟩ ?_
      exact (hW.alloc hbase _).grown h3 (by simp; omega) fun k hk => (hown.lt k hk).1
theorem World.ownsRow.after {w w' : World} {base size n : Nat} {e : TypeId} {v : Value} {xs : List Value} (h : w.ownsRow base e size v n xs) (b : Below w.heap.size w w') : w'.ownsRow base e size v n xs := by
  obtain ⟨hl, h⟩ := h
  refine ⟨hl, ?_⟩
  rcases h with h | ⟨g, cap, cur, hv, hb, hg, hr⟩
  · exact .inl h
  · exact .inr ⟨g, cap, cur, hv, hb, (b.block g (Array.getElem?_eq_some_iff.1 hg).1).trans hg, hr⟩
theorem World.ownsRow.form {w : World} {base size n : Nat} {e : TypeId} {v : Value} {xs : List Value} (h : w.ownsRow base e size v n xs) : ∃ p cap, v = .slice p n cap := by
  obtain ⟨_, ⟨rfl, rfl⟩ | ⟨g, cap, cur, hv, hr⟩⟩ := h
  · exact ⟨none, 0, rfl⟩
  · exact ⟨_, cap, hv⟩
end Go
namespace Go.Proofs.YtggjckalmlploaaGreatDoor.Lx
open Go.RowKit Go.Proofs.LexMath

theorem info_of {P : Program} {t : TypeId} {z : Value} {s b : Nat} (h : (P.info? t).map (fun i => (i.zero, i.size, i.bytes)) = some (some z, s, b)) : ∃ i, P.info? t = some i ∧ i.zero = some z ∧ i.size = s ∧ i.bytes = b := by
  cases hq : P.info? t with
  | none => rw [hq] at h; simp at h
  | some i => rw [hq] at h; simp at h; exact ⟨i, rfl, h.1, h.2.1, h.2.2⟩
theorem infoByte : ∃ i, Tryz.prog.info? 5 = some i ∧ i.zero = some (.int .u8 0) ∧ i.size = 1 ∧ i.bytes = 1 := info_of (by kernel_rfl)
def zeroTok : Value := .agg #[.int .i64 0, .string ByteArray.empty, .int .i64 0, .int .i64 0]
theorem infoTok : ∃ i, Tryz.prog.info? 45 = some i ∧ i.zero = some zeroTok ∧ i.size = 4 ∧ i.bytes = 40 := info_of (by kernel_rfl)
def byteVals (l : Bs) : List Value := l.map fun c => .int .u8 (iv c)
theorem byteVals_len (l : Bs) : (byteVals l).length = l.length := by simp [byteVals]
theorem byteVals_append (a b : Bs) : byteVals (a ++ b) = byteVals a ++ byteVals b := by simp [byteVals]
/-- Bytes in a row of the call's own. -/
def BRow (base : Nat) (w : World) (v : Value) (n : Nat) (l : Bs) : Prop := w.ownsRow base 5 1 v n (byteVals l)
theorem BRow.len {base n : Nat} {w : World} {v : Value} {l : Bs} (h : BRow base w v n l) : l.length = n := by
  have := h.1
  rw [byteVals_len] at this
  omega
theorem BRow.nil (base : Nat) (w : World) : BRow base w (.slice none 0 0) 0 [] := World.ownsRow_nil _ _ _ _
theorem BRow.after {base n : Nat} {w w' : World} {v : Value} {l : Bs} (h : BRow base w v n l) (b : Below w.heap.size w w') : BRow base w' v n l := World.ownsRow.after h b
theorem strOf (l : Bs) : strOfNums (l.map iv) = bs l := by
  have e : (strOfNums (l.map iv)).data = (bs l).data := by
    rw [← Array.toList_inj, strOfNums_data, bs_list, List.map_map]
    conv => rhs; rw [← List.map_id l]
    apply List.map_congr_left
    intro c _
    simp only [Function.comp, id]
    apply iv_inj
    have := iv_range c
    rw [iv_ofNat _ (by omega)]
    omega
  cases h1 : strOfNums (l.map iv); cases h2 : bs l
  rw [h1, h2] at e
  simp only at e
  rw [e]
theorem conv_row {base n : Nat} {w : World} {v : Value} {l : Bs} (h : BRow base w v n l) : (convert 119 9 v).run Tryz.prog w = .ok (.string (bs l)) w := by
  have hl := h.len
  obtain ⟨h0, ⟨rfl, rfl⟩ | ⟨g, cap, cur, rfl, hb, hg, hnc, hcm, hcs, ht⟩⟩ := h
  · obtain rfl : l = [] := List.eq_nil_of_length_eq_zero hl
    exact run_convert_bytes_nil w 119 5 Tryz.underlying119 Tryz.underlying5 0 0 9 Tryz.underlying9
  · rw [← strOf]
    refine run_convert_bytes_arg w 119 5 Tryz.underlying119 Tryz.underlying5 g 0 n cap (l.map iv) (by simpa using hl) (fun i hi => ?_) 9 Tryz.underlying9
    have hj : (byteVals l)[i]? = some (.int .u8 ((l.map iv).getD i 0)) := by
      have hi' : i < l.length := by omega
      simp [byteVals, List.getD_eq_getElem?_getD, List.getElem?_eq_getElem hi']
    rw [← ht] at hj
    have hj' := take_get hj
    unfold World.cell?
    simp only [hg]
    simpa using hj'
theorem bytes_one (l : Bs) : ∀ u ∈ byteVals l, u.oneCell' = true := by
  intro u hu
  obtain ⟨c, _, rfl⟩ := List.mem_map.1 hu
  rfl
/-- append of bytes that lie in a new block. -/
theorem append_bytes {ops : Array Oper} {rest : List Oper} {o : Oper} {a : Act} {Q : Exit → Act → World → Prop} {w W : World} (news : Bs) (k : Nat) (hk : news.length = k) (s x : Operand) (hgd : o.guard = none) (ho : o.op = .call { callee := .builtin .append, args := #[s, x], argTypes := #[119, 119] })
    (base : Nat) (v : Value) (n : Nat) (l : Bs) (hs : a.eval s = v) (hown : BRow base w v n l) (hx : a.eval x = .slice (some ⟨w.heap.size, 0, none⟩) k k) (hm0 : 0 < k) (h63 : n + k ≤ 100000000) (hbase : base ≤ w.heap.size) (hW : Below base W w)
    (h : ∀ p cap w', BRow base w' (.slice p (n + k) cap) (n + k) (l ++ news) → Below base W w' → wpList Tryz.prog ops Q rest (a.put o.dst (.slice p (n + k) cap)) w') :
    wpList Tryz.prog ops Q (o :: rest) a (w.alloc (.cells (byteVals news).toArray 5)) := by
  subst hk
  obtain ⟨i, hi⟩ := infoByte
  refine wpList_append_new s x 119 base 5 i _ 1 1 Tryz.underlying119 hi rfl (by decide) hgd ho v n (byteVals l) hs hown news.length (byteVals news) hx (by rw [byteVals_len]; omega) (bytes_one news) hm0 h63 (by omega) hbase hW ?_
  intro p cap w' h1 h2
  exact h p cap w' (by unfold BRow; rw [byteVals_append]; exact h1) h2
/-- Tokens in a row of the call's own. -/
def TRow (base : Nat) (w : World) (v : Value) (n : Nat) (l : List Tok) : Prop := w.ownsRow base 45 4 v n (tokCells l)
theorem TRow.len {base n : Nat} {w : World} {v : Value} {l : List Tok} (h : TRow base w v n l) : l.length = n := by
  have := h.1
  rw [length_tokCells] at this
  omega
theorem TRow.nil (base : Nat) (w : World) : TRow base w (.slice none 0 0) 0 [] := World.ownsRow_nil _ _ _ _
theorem TRow.after {base n : Nat} {w w' : World} {v : Value} {l : List Tok} (h : TRow base w v n l) (b : Below w.heap.size w w') : TRow base w' v n l := World.ownsRow.after h b
theorem TRow.at {base n : Nat} {w : World} {v : Value} {l : List Tok} (h : TRow base w v n l) : ToksAt w v l := by
  have e := h.len
  subst e
  exact SliceAt.of_owns h
/-- append of a token that lies in a new block. -/
theorem append_tok {ops : Array Oper} {rest : List Oper} {o : Oper} {a : Act} {Q : Exit → Act → World → Prop} {w W : World} (t : Tok) (s x : Operand) (hgd : o.guard = none) (ho : o.op = .call { callee := .builtin .append, args := #[s, x], argTypes := #[46, 46] })
    (base : Nat) (v : Value) (n : Nat) (l : List Tok) (hs : a.eval s = v) (hown : TRow base w v n l) (hx : a.eval x = .slice (some ⟨w.heap.size, 0, none⟩) 1 1) (h63 : n + 1 ≤ 100000000) (hbase : base ≤ w.heap.size) (hW : Below base W w)
    (h : ∀ p cap w', TRow base w' (.slice p (n + 1) cap) (n + 1) (l ++ [t]) → Below base W w' → wpList Tryz.prog ops Q rest (a.put o.dst (.slice p (n + 1) cap)) w') :
    wpList Tryz.prog ops Q (o :: rest) a (w.alloc (.cells #[.int .i64 t.kind, .string t.text, .int .i64 t.num, .int .i64 t.at_] 45)) := by
  obtain ⟨i, hi⟩ := infoTok
  refine wpList_append_new s x 46 base 45 i _ 4 40 Tryz.underlying46 hi rfl (by decide) hgd ho v n (tokCells l) hs hown 1 (tokCells [t]) hx rfl (tokCells_one [t]) (by omega) h63 (by omega) hbase hW ?_
  intro p cap w' h1 h2
  exact h p cap w' (by unfold TRow; rw [tokCells_append]; exact h1) h2
end Go.Proofs.YtggjckalmlploaaGreatDoor.Lx
/- The contract of literal: the string that is written from a place on. -/
set_option maxRecDepth 100000
namespace Go.Proofs.YtggjckalmlploaaGreatDoor.Lx
open Go.RowKit Go.Proofs.LexMath

def litV (at_ : Nat) : Option (Bs × Nat) → ByteArray × Int × Bool
  | none => (⟨#[]⟩, 0, false)
  | some (t, m) => if t.length ≤ 200 then (bs t, ((at_ + 1 + m : Nat) : Int), true) else (⟨#[]⟩, 0, false)
def LRes (x : ByteArray × Int × Bool) (W : World) (e : Ending) (w' : World) : Prop := e = .returned (.tuple #[.string x.1, .int .i64 x.2.1, .bool x.2.2]) ∧ Below W.heap.size W w'
/-- How far a string has been read: the bytes so far and the place. -/
def LitAt (s : ByteArray) (at_ p n : Nat) (acc : Bs) : Prop :=
  at_ + 1 ≤ p ∧ p ≤ s.size ∧ acc.length = n ∧ n ≤ 200 ∧ str (s.data.toList.drop (at_ + 1)) = (str (s.data.toList.drop p)).map fun x => (acc ++ x.1, p - (at_ + 1) + x.2)
theorem lit_start (s : ByteArray) (at_ : Nat) (h : at_ < s.size) : LitAt s at_ (at_ + 1) 0 [] := by
  refine ⟨Nat.le_refl _, h, rfl, by omega, ?_⟩
  cases str (s.data.toList.drop (at_ + 1)) <;> simp
theorem lit_out (s : ByteArray) (at_ p n : Nat) (acc : Bs) (h : LitAt s at_ p n acc) (hp : ¬ p < s.size) : litV at_ (str (s.data.toList.drop (at_ + 1))) = (⟨#[]⟩, 0, false) := by
  have e : s.data.toList.drop p = [] := List.drop_eq_nil_of_le (by show s.data.size ≤ _; have : s.size = s.data.size := rfl; omega)
  rw [h.2.2.2.2, e]; rfl
theorem lit_end (s : ByteArray) (at_ p n : Nat) (acc : Bs) (h : LitAt s at_ p n acc) (hp : p < s.size) (hc : iv s[p] = 34) : litV at_ (str (s.data.toList.drop (at_ + 1))) = (bs acc, ((p + 1 : Nat) : Int), true) := by
  rw [h.2.2.2.2, drop_at s p hp, str_end _ _ hc]
  obtain ⟨h1, h2, h3, h4, _⟩ := h
  simp only [litV, Option.map_some, List.append_nil]
  rw [if_pos (by omega)]
  congr 3
  omega
theorem lit_no (s : ByteArray) (p : Nat) (hp : p < s.size) (hc : ¬ iv s[p] = 34) : ∀ c r, s.data.toList.drop p = c :: r → ¬ iv c = 34 := by
  intro c r e
  rw [drop_at s p hp] at e
  injection e with e1 e2
  rw [← e1]; exact hc
theorem lit_bad (s : ByteArray) (at_ p n : Nat) (acc : Bs) (h : LitAt s at_ p n acc) (hp : p < s.size) (hc : ¬ iv s[p] = 34) (hn : chr (s.data.toList.drop p) = none) : litV at_ (str (s.data.toList.drop (at_ + 1))) = (⟨#[]⟩, 0, false) := by
  rw [h.2.2.2.2, str_bad _ hn (lit_no s p hp hc)]; rfl
theorem lit_long (s : ByteArray) (at_ p : Nat) (acc : Bs) (b : UInt8) (k : Nat) (h : LitAt s at_ p 200 acc) (hp : p < s.size) (hc : ¬ iv s[p] = 34) (hn : chr (s.data.toList.drop p) = some (b, k)) : litV at_ (str (s.data.toList.drop (at_ + 1))) = (⟨#[]⟩, 0, false) := by
  rw [h.2.2.2.2, str_step hn (lit_no s p hp hc)]
  cases str ((s.data.toList.drop p).drop k) with
  | none => rfl
  | some x =>
    have := h.2.2.1
    simp only [litV, Option.map_some]
    rw [if_neg (by simp; omega)]
theorem lit_step (s : ByteArray) (at_ p n : Nat) (acc : Bs) (b : UInt8) (k : Nat) (h : LitAt s at_ p n acc) (hp : p < s.size) (hc : ¬ iv s[p] = 34) (hn : chr (s.data.toList.drop p) = some (b, k)) (h2 : n < 200) : LitAt s at_ (p + k) (n + 1) (acc ++ [b]) := by
  have hk := chr_size hn
  rw [List.length_drop] at hk
  have hl : s.data.toList.length = s.size := rfl
  obtain ⟨a1, a2, a3, a4, a5⟩ := h
  refine ⟨by omega, by omega, by simp; omega, by omega, ?_⟩
  rw [a5, str_step hn (lit_no s p hp hc), List.drop_drop]
  cases str (s.data.toList.drop (p + k)) with
  | none => rfl
  | some x =>
    simp
    omega
theorem ret_lit {x : ByteArray × Int × Bool} {a : ByteArray} {b : Int} {c : Bool} (h : x = (a, b, c)) : Ending.returned (.tuple #[.string a, .int .i64 b, .bool c]) = .returned (.tuple #[.string x.1, .int .i64 x.2.1, .bool x.2.2]) := by rw [h]
set_option maxHeartbeats 1000000 in
theorem literal_any (s : ByteArray) (at_ : Nat) (w : World) (hat : at_ < s.size) (hs : s.size ≤ 100000000) :
    Calls Tryz.prog 52 #[.string s, .int .i64 at_] w (LRes (litV at_ (str (s.data.toList.drop (at_ + 1)))) w) := by
  have OUT := Lib.hid (lit_out s at_)
  have END := Lib.hid (lit_end s at_)
  have BAD := Lib.hid (lit_bad s at_)
  have LONG := Lib.hid (lit_long s at_)
  have STEP := Lib.hid (lit_step s at_)
  have START := Lib.hid (lit_start s at_ hat)
  generalize hx : litV at_ (str (s.data.toList.drop (at_ + 1))) = x at *
  clear hx
  go_enter Tryz.func52, Tryz.ntmps52
  go_wp2
  go_loopw [1, 7] (fun i t wr => ∃ (p n : Nat) (acc : Bs), i = .int .i64 p ∧ LitAt s at_ p n acc ∧ BRow w.heap.size wr t n acc ∧ Below w.heap.size w wr) (fun i _ _ => s.size - (intOf i).toNat)
  case atStart => exact ⟨at_ + 1, 0, [], by go_num, START.out, BRow.nil _ _, Below.refl _ _⟩
  case round =>
    obtain ⟨wo, hwo⟩ : ∃ wo : World, wo = wr := ⟨_, rfl⟩
    subst hwo
    obtain ⟨p, n, acc, rfl, hL, hR, hB⟩ := hrel
    obtain ⟨pp, cap, rfl⟩ := hR.form
    have hL' := hL
    obtain ⟨h1, h2, _, h3, _⟩ := hL'
    have HL := Lib.hid hL
    have HR := Lib.hid hR
    have hsz := hB.size
    have HB := Lib.hid hB
    clear hL hR hB
    by_cases hp : p < s.size
    · by_cases hc : iv s[p] = 34
      · have t1 := test_iv hc
        have E := Lib.hid (END.out p n acc HL.out hp hc)
        have hcv := conv_row HR.out
        clear hc
        go_wp2
        go_ret3
        exact ⟨ret_lit E.out, HB.out⟩
      · have t1 := test_iv' hc
        obtain ⟨hd1, hd2⟩ := span_form s p
        generalize hdd : s.extract p s.size = d at *
        have hd0 : 0 < d.size := by omega
        have C := fun W => character_any d W hd0
        rw [hd1] at C
        have HC := Lib.hid hc
        cases hn : chr (s.data.toList.drop p) with
        | none =>
          rw [hn] at C
          have E := Lib.hid (BAD.out p n acc HL.out hp hc hn)
          have CC := Lib.hid C
          clear hn C hd1 hd2 hc
          go_wp2_with fail
          refine (CC.out _).mono ?_
          rintro e w1 ⟨rfl, b1⟩
          simp only [chrV]
          go_wp2
          go_ret3
          exact ⟨ret_lit E.out, HB.out.trans (b1.mono HB.out.size)⟩
        | some bk =>
          obtain ⟨b, k⟩ := bk
          rw [hn] at C
          have hk := chr_size hn
          rw [List.length_drop] at hk
          have hl : s.data.toList.length = s.size := rfl
          have hk1 := hk.1
          have hk2 : p + k ≤ s.size := by omega
          have hkb : ((k : Int) == 0) = false := by simp; omega
          clear hk hl
          by_cases hn2 : n = 200
          · subst hn2
            have E := Lib.hid (LONG.out p acc b k HL.out hp hc hn)
            have CC := Lib.hid C
            clear hn C hd1 hd2 hc
            go_wp2_with fail
            refine (CC.out _).mono ?_
            rintro e w1 ⟨rfl, b1⟩
            simp only [chrV]
            go_wp2
            go_ret3
            exact ⟨ret_lit E.out, HB.out.trans (b1.mono HB.out.size)⟩
          · have S := Lib.hid (STEP.out p n acc b k HL.out hp hc hn (by omega))
            have hn3 : ((n : Int) == 200) = false := by simp; omega
            have CC := Lib.hid C
            clear hn C hd1 hd2 hc
            go_wp2_with fail
            refine (CC.out _).mono ?_
            rintro e w1 ⟨rfl, b1⟩
            have B1 := Lib.hid (HB.out.trans (b1.mono HB.out.size))
            have R1 := Lib.hid (HR.out.after b1)
            have hsz1 := b1.size
            clear b1
            simp only [chrV]
            go_wp2_with ((refine append_bytes [b] 1 rfl (.tmp 36) (.tmp 38) rfl rfl w.heap.size _ n acc rfl R1.out rfl (by omega) (by omega) (by omega) B1.out ?_; intro p' cap' w2 h1 h2; have R2 := Lib.hid h1; have B2 := Lib.hid h2; clear h1 h2))
            go_roundw
            case rel => exact ⟨p + k, n + 1, _, by go_num, S.out, R2.out, B2.out⟩
            case measure => simp [intOf]; omega
    · have E := Lib.hid (OUT.out p n acc HL.out hp)
      go_wp2
      go_ret3
      exact ⟨ret_lit E.out, HB.out⟩
end Go.Proofs.YtggjckalmlploaaGreatDoor.Lx
/- The contract of isWord. -/
namespace Go.Proofs.YtggjckalmlploaaGreatDoor.Lx
open Go.RowKit Go.Proofs.LexMath

theorem run_len (q : Int → Bool) (r : Bs) : (run q r = r.length) ↔ (r.all fun d => q (iv d)) = true := by
  induction r with
  | nil => simp [run_nil]
  | cons c r ih =>
    by_cases h : q (iv c) = true
    · rw [run_yes q c r h]; simp [h, ih]
    · have h' : q (iv c) = false := by simpa using h
      rw [run_no q c r h']; simp [h']
theorem nil_of_size {s : ByteArray} (h : ¬ 0 < s.size) : s.data.toList = [] := by
  apply List.eq_nil_of_length_eq_zero
  show s.data.size = 0
  have : s.size = s.data.size := rfl
  omega
theorem isw_at (p q : Int → Bool) (s : ByteArray) (h : 0 < s.size) : isw p q s.data.toList = (p (s[0].toNat : Nat) && decide (((1 + run q (s.data.toList.drop 1) : Nat) : Int) = (s.size : Int))) := by
  have e := drop_at s 0 h
  rw [List.drop_zero] at e
  have hl : s.data.toList.length = s.size := rfl
  have e2 := run_len q (s.data.toList.drop 1)
  have hd : (s.data.toList.drop 1).length = s.size - 1 := by rw [List.length_drop, hl]
  rw [hd] at e2
  rw [e]
  rw [show (0 : Nat) + 1 = 1 from rfl]
  generalize s.data.toList.drop 1 = r at *
  simp only [isw, List.drop_succ_cons, List.drop_zero]
  have e3 : (r.all fun d => q (iv d)) = decide (((1 + run q r : Nat) : Int) = (s.size : Int)) := by
    rw [Bool.eq_iff_iff, ← e2, decide_eq_true_eq]
    omega
  rw [e3]
  rfl
theorem isWord_any (s : ByteArray) (v1 v2 : Value) (p q : Int → Bool) (w : World) (hs : s.size ≤ 1000000000) (hq : Wide q) (h1 : Cls w v1 p) (h2 : Cls w v2 q) :
    Calls Tryz.prog 71 #[.string s, v1, v2] w fun e w' => e = .returned (.bool (isw p q s.data.toList)) ∧ Below w.heap.size w w' := by
  have hc := h1
  obtain ⟨f, caps, rfl, hf, hcl⟩ := hc
  obtain ⟨f2, caps2, rfl⟩ := h2.form
  have HW := Lib.hid hf
  have HQ := Lib.hid hq
  clear hf h1 hq
  by_cases h0 : 0 < s.size
  · have HV := Lib.hid (isw_at p q s h0)
    have hb : (s[0].toNat : Int) ≤ 255 := by have := s[0].toNat_lt; omega
    have a1 : s.toList.isEmpty = false := by
      rw [ByteArray.toList_eq]
      cases hx : s.data.toList with
      | nil => have : s.data.toList.length = s.size := rfl; rw [hx] at this; simp at this; omega
      | cons => rfl
    cases hp : p (s[0].toNat : Nat) with
    | true =>
      have HL := hcl (s[0].toNat : Nat) w (Below.refl _ _)
      rw [hp] at HV HL
      have HL := Lib.hid HL
      clear hp hcl
      go_enter Tryz.func71, Tryz.ntmps71
      go_wp2_with ((refine wpList_call_slot_if (o := ⟨some 14, _, _, _, _, _⟩) (by rfl) 10 _ _ rfl f caps rfl HW.out (#[.int .i32 (s[0].toNat : Nat)] ++ caps) (by simp [go_sem]) ?_; refine HL.out.mono ?_; rintro e w1 ⟨rfl, hs⟩; refine ⟨_, rfl, ?_⟩; simp only [Act.put, List.setIfInBounds_toArray, List.set_cons_succ, List.set_cons_zero]; have HS := Lib.hid hs; clear hs))
      have S := span_any s 1 _ q w1 (by omega) (by omega) HQ.out (h2.below HS.out)
      generalize 1 + run q (s.data.toList.drop 1) = m at S HV
      refine S.mono ?_
      rintro e w2 ⟨rfl, b2⟩
      clear S
      go_wp2
      go_ret
      refine ⟨ret_bool ?_, HS.out.trans (b2.mono HS.out.size)⟩
      rw [HV.out]
      rfl
    | false => 
      have HL := hcl (s[0].toNat : Nat) w (Below.refl _ _)
      rw [hp] at HV HL
      have HL := Lib.hid HL
      clear hp hcl
      go_enter Tryz.func71, Tryz.ntmps71
      go_wp2_with ((refine wpList_call_slot_if (o := ⟨some 14, _, _, _, _, _⟩) (by rfl) 10 _ _ rfl f caps rfl HW.out (#[.int .i32 (s[0].toNat : Nat)] ++ caps) (by simp [go_sem]) ?_; refine HL.out.mono ?_; rintro e w1 ⟨rfl, hs⟩; refine ⟨_, rfl, ?_⟩; simp only [Act.put, List.setIfInBounds_toArray, List.set_cons_succ, List.set_cons_zero]; have HS := Lib.hid hs; clear hs))
      go_ret
      exact ⟨ret_bool (by rw [HV.out]; rfl), HS.out⟩
  · have e := nil_of_size h0
    have e2 : s.toList = [] := by rw [ByteArray.toList_eq]; exact e
    have HE := Lib.hid e
    clear e hcl
    go_enter Tryz.func71, Tryz.ntmps71
    go_wp2_with fail
    go_ret
    exact ⟨ret_bool (by rw [HE.out]; rfl), Below.refl _ _⟩
end Go.Proofs.YtggjckalmlploaaGreatDoor.Lx
