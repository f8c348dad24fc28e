/- Rows of the call's own: bytes and tokens that are gathered, append to them, and the string that the bytes are. -/
import Derived.Test.YtgcojmjllpjefaaEscape
import Derived.Maps.AppendAt
import Derived.Lib.AppendStr
namespace Go
open Go.RowKit
/-- append of elements that lie in a new block, to a row of the call's own. -/
theorem wpList_append_new {P : Program} {ops : Array Oper} {rest : List Oper} {o : Oper} {a : Act} {Q : Exit → Act → World → Prop} {w W : World} (s x : Operand) (t : TypeId)
    (base : Nat) (e : TypeId) (i : TypeInfo) (z : Value) (size bytes : Nat) (ht : P.underlying t = some (.slice e)) (hi : P.info? e = some i ∧ i.zero = some z ∧ i.size = size ∧ i.bytes = bytes) (hzs : z.cells.size = size) (hsz : 0 < size)
    (hgd : o.guard = none) (ho : o.op = .call { callee := .builtin .append, args := #[s, x], argTypes := #[t, t] })
    (v : Value) (n : Nat) (xs : List Value) (hs : a.eval s = v) (hown : w.ownsRow base e size v n xs)
    (m : Nat) (news : List Value) (hx : a.eval x = .slice (some ⟨w.heap.size, 0, none⟩) m m) (hl : news.length = m * size) (h1 : ∀ u ∈ news, u.oneCell' = true)
    (hm0 : 0 < m) (h63 : n + m ≤ 100000000) (hby : bytes ≤ 100) (hbase : base ≤ w.heap.size) (hW : Below base W w)
    (h : ∀ p cap w', w'.ownsRow base e size (.slice p (n + m) cap) (n + m) (xs ++ news) → Below base W w' → wpList P ops Q rest (a.put o.dst (.slice p (n + m) cap)) w') :
    wpList P ops Q (o :: rest) a (w.alloc (.cells news.toArray e)) := by
  have hb : (n + m) * bytes ≤ 140737488355328 := Nat.le_trans (Nat.mul_le_mul h63 hby) (by omega)
  refine wpList_append_own (w.alloc (.cells news.toArray e)) hgd s x t ho base e i z size bytes ht hi.1 hi.2.1 hi.2.2.1 hi.2.2.2 hzs hsz v n xs hs (hown.alloc _) ⟨w.heap.size, 0, none⟩ m m news hx hl ?_ h1 (by unfold maxLen; omega) hb (by simp; omega) ?_
  · intro j u hj
    have h0 := heap_alloc_new w (.cells news.toArray e)
    rw [Go.WideShapes.add_plain]
    unfold World.cell?
    rw [h0]
    simpa using hj
  · intro v' w' h2 h3 _
    obtain ⟨hl', hh⟩ := h2
    rcases hh with ⟨_, h0⟩ | ⟨g, cap, cur, rfl, hr⟩
    · omega
    · refine h _ cap w' ⟨hl', .inr ⟨g, cap, cur, rfl, hr⟩⟩ ?_
      exact (hW.alloc hbase _).grown h3 (by simp; omega) fun k hk => (hown.lt k hk).1
theorem World.ownsRow.after {w w' : World} {base size n : Nat} {e : TypeId} {v : Value} {xs : List Value} (h : w.ownsRow base e size v n xs) (b : Below w.heap.size w w') : w'.ownsRow base e size v n xs := by
  obtain ⟨hl, h⟩ := h
  refine ⟨hl, ?_⟩
  rcases h with h | ⟨g, cap, cur, hv, hb, hg, hr⟩
  · exact .inl h
  · exact .inr ⟨g, cap, cur, hv, hb, (b.block g (Array.getElem?_eq_some_iff.1 hg).1).trans hg, hr⟩
theorem World.ownsRow.form {w : World} {base size n : Nat} {e : TypeId} {v : Value} {xs : List Value} (h : w.ownsRow base e size v n xs) : ∃ p cap, v = .slice p n cap := by
  obtain ⟨_, ⟨rfl, rfl⟩ | ⟨g, cap, cur, hv, hr⟩⟩ := h
  · exact ⟨none, 0, rfl⟩
  · exact ⟨_, cap, hv⟩
end Go
namespace Go.Proofs.Ytgcojmjllpjefaa
open Go.RowKit Go.Proofs.LexMath

theorem info_of {P : Program} {t : TypeId} {z : Value} {s b : Nat} (h : (P.info? t).map (fun i => (i.zero, i.size, i.bytes)) = some (some z, s, b)) : ∃ i, P.info? t = some i ∧ i.zero = some z ∧ i.size = s ∧ i.bytes = b := by
  cases hq : P.info? t with
  | none => rw [hq] at h; simp at h
  | some i => rw [hq] at h; simp at h; exact ⟨i, rfl, h.1, h.2.1, h.2.2⟩
theorem infoByte : ∃ i, Try.prog.info? 5 = some i ∧ i.zero = some (.int .u8 0) ∧ i.size = 1 ∧ i.bytes = 1 := info_of (by kernel_rfl)
def zeroTok : Value := .agg #[.int .i64 0, .string ByteArray.empty, .int .i64 0, .int .i64 0]
theorem infoTok : ∃ i, Try.prog.info? 37 = some i ∧ i.zero = some zeroTok ∧ i.size = 4 ∧ i.bytes = 40 := info_of (by kernel_rfl)
def byteVals (l : Bs) : List Value := l.map fun c => .int .u8 (iv c)
theorem byteVals_len (l : Bs) : (byteVals l).length = l.length := by simp [byteVals]
theorem byteVals_append (a b : Bs) : byteVals (a ++ b) = byteVals a ++ byteVals b := by simp [byteVals]
/-- Bytes in a row of the call's own. -/
def BRow (base : Nat) (w : World) (v : Value) (n : Nat) (l : Bs) : Prop := w.ownsRow base 5 1 v n (byteVals l)
theorem BRow.len {base n : Nat} {w : World} {v : Value} {l : Bs} (h : BRow base w v n l) : l.length = n := by
  have := h.1
  rw [byteVals_len] at this
  omega
theorem BRow.nil (base : Nat) (w : World) : BRow base w (.slice none 0 0) 0 [] := World.ownsRow_nil _ _ _ _
theorem BRow.after {base n : Nat} {w w' : World} {v : Value} {l : Bs} (h : BRow base w v n l) (b : Below w.heap.size w w') : BRow base w' v n l := World.ownsRow.after h b
theorem strOf (l : Bs) : strOfNums (l.map iv) = bs l := by
  have e : (strOfNums (l.map iv)).data = (bs l).data := by
    rw [← Array.toList_inj, strOfNums_data, bs_list, List.map_map]
    conv => rhs; rw [← List.map_id l]
    apply List.map_congr_left
    intro c _
    simp only [Function.comp, id]
    apply iv_inj
    have := iv_range c
    rw [iv_ofNat _ (by omega)]
    omega
  cases h1 : strOfNums (l.map iv); cases h2 : bs l
  rw [h1, h2] at e
  simp only at e
  rw [e]
theorem conv_row {base n : Nat} {w : World} {v : Value} {l : Bs} (h : BRow base w v n l) : (convert 43 9 v).run Try.prog w = .ok (.string (bs l)) w := by
  have hl := h.len
  obtain ⟨h0, ⟨rfl, rfl⟩ | ⟨g, cap, cur, rfl, hb, hg, hnc, hcm, hcs, ht⟩⟩ := h
  · obtain rfl : l = [] := List.eq_nil_of_length_eq_zero hl
    exact run_convert_bytes_nil w 43 5 Try.underlying43 Try.underlying5 0 0 9 Try.underlying9
  · rw [← strOf]
    refine run_convert_bytes_arg w 43 5 Try.underlying43 Try.underlying5 g 0 n cap (l.map iv) (by simpa using hl) (fun i hi => ?_) 9 Try.underlying9
    have hj : (byteVals l)[i]? = some (.int .u8 ((l.map iv).getD i 0)) := by
      have hi' : i < l.length := by omega
      simp [byteVals, List.getD_eq_getElem?_getD, List.getElem?_eq_getElem hi']
    rw [← ht] at hj
    have hj' := take_get hj
    unfold World.cell?
    simp only [hg]
    simpa using hj'
theorem bytes_one (l : Bs) : ∀ u ∈ byteVals l, u.oneCell' = true := by
  intro u hu
  obtain ⟨c, _, rfl⟩ := List.mem_map.1 hu
  rfl
/-- append of bytes that lie in a new block. -/
theorem append_bytes {ops : Array Oper} {rest : List Oper} {o : Oper} {a : Act} {Q : Exit → Act → World → Prop} {w W : World} (news : Bs) (k : Nat) (hk : news.length = k) (s x : Operand) (hgd : o.guard = none) (ho : o.op = .call { callee := .builtin .append, args := #[s, x], argTypes := #[43, 43] })
    (base : Nat) (v : Value) (n : Nat) (l : Bs) (hs : a.eval s = v) (hown : BRow base w v n l) (hx : a.eval x = .slice (some ⟨w.heap.size, 0, none⟩) k k) (hm0 : 0 < k) (h63 : n + k ≤ 100000000) (hbase : base ≤ w.heap.size) (hW : Below base W w)
    (h : ∀ p cap w', BRow base w' (.slice p (n + k) cap) (n + k) (l ++ news) → Below base W w' → wpList Try.prog ops Q rest (a.put o.dst (.slice p (n + k) cap)) w') :
    wpList Try.prog ops Q (o :: rest) a (w.alloc (.cells (byteVals news).toArray 5)) := by
  subst hk
  obtain ⟨i, hi⟩ := infoByte
  refine wpList_append_new s x 43 base 5 i _ 1 1 Try.underlying43 hi rfl (by decide) hgd ho v n (byteVals l) hs hown news.length (byteVals news) hx (by rw [byteVals_len]; omega) (bytes_one news) hm0 h63 (by omega) hbase hW ?_
  intro p cap w' h1 h2
  exact h p cap w' (by unfold BRow; rw [byteVals_append]; exact h1) h2
theorem strCells_vals (s : ByteArray) : Go.Lib.strCells s = byteVals s.data.toList := by
  simp [Go.Lib.strCells, byteVals, iv]
/-- append of a text. -/
theorem append_text {ops : Array Oper} {rest : List Oper} {o : Oper} {a : Act} {Q : Exit → Act → World → Prop} {w W : World} (t : ByteArray) (s x : Operand) (hgd : o.guard = none) (ho : o.op = .call { callee := .builtin .append, args := #[s, x], argTypes := #[43, 9] })
    (base : Nat) (v : Value) (n : Nat) (l : Bs) (hs : a.eval s = v) (hown : BRow base w v n l) (hx : a.eval x = .string t) (h63 : n + t.size ≤ 100000000) (hbase : base ≤ w.heap.size) (hW : Below base W w)
    (h : ∀ p cap w', BRow base w' (.slice p (n + t.size) cap) (n + t.size) (l ++ t.data.toList) → Below base W w' → wpList Try.prog ops Q rest (a.put o.dst (.slice p (n + t.size) cap)) w') :
    wpList Try.prog ops Q (o :: rest) a w := by
  obtain ⟨i, hi⟩ := infoByte
  refine Go.Lib.wpList_append_own_string w hgd s x 43 9 ho base 5 i Try.underlying43 Try.underlying9 hi.1 hi.2.1 hi.2.2.1 hi.2.2.2 v n (byteVals l) hs hown t hx (by unfold maxLen; omega) (by omega) hbase ?_
  intro v' w' h1 h2 _
  obtain ⟨p, cap, rfl⟩ := h1.form
  refine h p cap w' (by unfold BRow; rw [byteVals_append, ← strCells_vals]; exact h1) ?_
  exact hW.grown h2 hbase fun k hk => (hown.lt k hk).1
/-- Tokens in a row of the call's own. -/
def TRow (base : Nat) (w : World) (v : Value) (n : Nat) (l : List Tok) : Prop := w.ownsRow base 37 4 v n (tokCells l)
theorem TRow.len {base n : Nat} {w : World} {v : Value} {l : List Tok} (h : TRow base w v n l) : l.length = n := by
  have := h.1
  rw [length_tokCells] at this
  omega
theorem TRow.nil (base : Nat) (w : World) : TRow base w (.slice none 0 0) 0 [] := World.ownsRow_nil _ _ _ _
theorem TRow.after {base n : Nat} {w w' : World} {v : Value} {l : List Tok} (h : TRow base w v n l) (b : Below w.heap.size w w') : TRow base w' v n l := World.ownsRow.after h b
theorem TRow.at {base n : Nat} {w : World} {v : Value} {l : List Tok} (h : TRow base w v n l) : ToksAt w v l := by
  have e := h.len
  subst e
  exact SliceAt.of_owns h
/-- append of a token that lies in a new block. -/
theorem append_tok {ops : Array Oper} {rest : List Oper} {o : Oper} {a : Act} {Q : Exit → Act → World → Prop} {w W : World} (t : Tok) (s x : Operand) (hgd : o.guard = none) (ho : o.op = .call { callee := .builtin .append, args := #[s, x], argTypes := #[23, 23] })
    (base : Nat) (v : Value) (n : Nat) (l : List Tok) (hs : a.eval s = v) (hown : TRow base w v n l) (hx : a.eval x = .slice (some ⟨w.heap.size, 0, none⟩) 1 1) (h63 : n + 1 ≤ 100000000) (hbase : base ≤ w.heap.size) (hW : Below base W w)
    (h : ∀ p cap w', TRow base w' (.slice p (n + 1) cap) (n + 1) (l ++ [t]) → Below base W w' → wpList Try.prog ops Q rest (a.put o.dst (.slice p (n + 1) cap)) w') :
    wpList Try.prog ops Q (o :: rest) a (w.alloc (.cells #[.int .i64 t.kind, .string t.text, .int .i64 t.num, .int .i64 t.at_] 37)) := by
  obtain ⟨i, hi⟩ := infoTok
  refine wpList_append_new s x 23 base 37 i _ 4 40 Try.underlying23 hi rfl (by decide) hgd ho v n (tokCells l) hs hown 1 (tokCells [t]) hx rfl (tokCells_one [t]) (by omega) h63 (by omega) hbase hW ?_
  intro p cap w' h1 h2
  exact h p cap w' (by unfold TRow; rw [tokCells_append]; exact h1) h2
end Go.Proofs.Ytgcojmjllpjefaa
