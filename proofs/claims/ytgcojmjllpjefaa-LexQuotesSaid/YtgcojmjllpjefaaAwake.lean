/- What the chapter's example fixes. -/
import Derived.Test.YtgcojmjllpjefaaConv
import Derived.Test.YtgcojmjllpjefaaOpen
import Derived.Deep.RegionHeld3
namespace Go.Proofs.Ytgcojmjllpjefaa
open Go.RowKit Go.Proofs.LexMath

def tks : List Tok := [⟨6, bs [102, 117, 110], 0, 0⟩, ⟨1, bs [120], 0, 4⟩, ⟨6, bs [45, 62], 0, 5⟩, ⟨1, bs [120], 0, 7⟩, ⟨5, bs [43], 0, 8⟩, ⟨3, bs [], -1, 9⟩]
theorem lex_ex : lex [102, 117, 110, 32, 120, 45, 62, 120, 43, 126, 49] = .ok tks := by rfl
theorem show_ex : showV tks = (⟨#[102, 117, 110, 32, 120, 32, 45, 62, 32, 120, 32, 43, 32, 126, 49]⟩, 0) := by rfl
theorem right_ex : rightB ⟨1, bs [120], 0, 4⟩ = true := by decide
theorem word_ex : bs (wordR ⟨3, bs [], -1, 9⟩) = ⟨#[126, 49]⟩ := by rfl
theorem quote_ex : bs (quote [97, 10]) = ⟨#[34, 97, 92, 110, 34]⟩ := by rfl
theorem key_ex1 : key [45, 62] = true := by decide
theorem key_ex2 : key [120] = false := by decide
theorem toks_form {w : World} {v : Value} {ts : List Tok} (h : ToksAt w v ts) : ∃ p c, v = .slice p ts.length c := by
  obtain ⟨_, p, c, hv, _⟩ := h
  exact ⟨p, c, hv⟩
theorem lex_ok_len {l : Bs} {ts : List Tok} (h : lex l = .ok ts) : ts.length ≤ 4000 := by
  have := lex_line 0 0 l (by omega)
  rw [show lexAt 0 0 l = .ok ts from h] at this
  have := this.2.2
  omega
theorem toks_some {w : World} {v : Value} {ts : List Tok} {n : Nat} (h : ToksAt w v ts) (hn : ts.length = n + 1) : ∃ b off c, v = .slice (some ⟨b, off, none⟩) (n + 1) c ∧ b < w.heap.size ∧ CellsIn w b off (tokCells ts) := by
  obtain ⟨_, p, c, hv, _, _, h3⟩ := h
  obtain ⟨b, off, rfl, hb, hc⟩ := h3 (by omega)
  rw [hn] at hv
  exact ⟨b, off, c, hv, hb, hc⟩
theorem CellsIn.below {w w' : World} {b off : Nat} {cs : List Value} (h : CellsIn w b off cs) (hb : b < w.heap.size) (bel : Below w.heap.size w w') : CellsIn w' b off cs := h.kept (bel.block b hb)
theorem conv_old (W W2 : World) (l : Bs) (h : Below (W.alloc (.cells (byteVals l).toArray 5)).heap.size (W.alloc (.cells (byteVals l).toArray 5)) W2) : (convert 43 9 (.slice (some ⟨W.heap.size, 0, none⟩) l.length l.length)).run Try.prog W2 = .ok (.string (bs l)) W2 := by
  rw [← strOf]
  refine run_convert_bytes_arg _ 43 5 Try.underlying43 Try.underlying5 W.heap.size 0 l.length l.length (l.map iv) (by simp) (fun i hi => ?_) 9 Try.underlying9
  rw [Nat.zero_add, h.cell (p := ⟨W.heap.size, i, none⟩) (by simp), cells_new]
  simp [byteVals, List.getD_eq_getElem?_getD, List.getElem?_eq_getElem hi]
theorem conv_q {W W2 : World} (h : Below (W.alloc (.cells #[.int .u8 34, .int .u8 97, .int .u8 92, .int .u8 110, .int .u8 34] 5)).heap.size (W.alloc (.cells #[.int .u8 34, .int .u8 97, .int .u8 92, .int .u8 110, .int .u8 34] 5)) W2) : (convert 43 9 (.slice (some ⟨W.heap.size, 0, none⟩) 5 5)).run Try.prog W2 = .ok (.string ⟨#[34, 97, 92, 110, 34]⟩) W2 := conv_old W W2 [34, 97, 92, 110, 34] h
/-- The operation that makes a string of bytes, under a name: the region's walk is not to try it ahead of its turn. -/
def cv63 : Op := .convert 43 9 (.tmp 78)
theorem cv63_is : cv63 = .convert 43 9 (.tmp 78) := rfl
abbrev AwS (b off : Nat) (w' : World) : Prop :=
  w'.cell? ⟨b, off, none⟩ = some (.int .i64 6) ∧
  w'.cell? ⟨b, off + 4, none⟩ = some (.int .i64 1) ∧ w'.cell? ⟨b, off + 4 + 1, none⟩ = some (.string (bs [120])) ∧ w'.cell? ⟨b, off + 4 + 2, none⟩ = some (.int .i64 0) ∧ w'.cell? ⟨b, off + 4 + 3, none⟩ = some (.int .i64 4) ∧
  w'.cell? ⟨b, off + 5 * 4, none⟩ = some (.int .i64 3) ∧ w'.cell? ⟨b, off + 5 * 4 + 1, none⟩ = some (.string (bs [])) ∧ w'.cell? ⟨b, off + 5 * 4 + 2, none⟩ = some (.int .i64 (-1)) ∧ w'.cell? ⟨b, off + 5 * 4 + 3, none⟩ = some (.int .i64 9)
theorem aw_s {w2 w' : World} {b off : Nat} (hc : CellsIn w2 b off (tokCells tks)) (hb : b < w2.heap.size) (bel : Below w2.heap.size w2 w') : Below w2.heap.size w2 w' ∧ AwS b off w' := by
  have c2 := hc.below hb bel
  have q0 := c2.tok 0 (by decide)
  have q1 := c2.tok 1 (by decide)
  have q5 := c2.tok 5 (by decide)
  simp only [Nat.zero_mul, Nat.add_zero, Nat.one_mul, tks, List.getD_cons_zero, List.getD_cons_succ] at q0 q1 q5
  exact ⟨bel, q0.1, q1.1, q1.2.1, q1.2.2.1, q1.2.2.2, q5.1, q5.2.1, q5.2.2.1, q5.2.2.2⟩
theorem aw_drew (w : World) : Below w.heap.size w w.drew := (Below.refl _ _).drew
theorem aw_next {W w w' : World} (h : Below W.heap.size W w) (h' : Below w.heap.size w w') : Below W.heap.size W w' := h.trans (h'.mono h.size)
theorem aw_alloc {W w : World} (h : Below W.heap.size W w) (o : Obj) : Below W.heap.size W (w.alloc o) := h.alloc h.size o
set_option maxHeartbeats 0 in
set_option maxRecDepth 100000 in
theorem awake_any (w : World) : Calls Try.prog 10 #[] w (RB true w) := by
  have L := fun W => lex_any ⟨#[102, 117, 110, 32, 120, 45, 62, 120, 43, 126, 49]⟩ W (by decide)
  have S := fun v W h => lshow_any v tks W h (by decide) (by decide)
  have K1 := fun W => key_any ⟨#[45, 62]⟩ W
  have K2 := fun W => key_any ⟨#[120]⟩ W
  have R := fun W => right_any ⟨1, bs [120], 0, 4⟩ W (by decide)
  have O := fun W => word_any ⟨3, bs [], -1, 9⟩ W (by decide)
  have Q := fun W => quote_any ⟨#[97, 10]⟩ W (by decide)
  have M := fun v W h1 h2 => lsame_any v v tks tks W h1 h2 (by decide)
  have hcv : ∀ W : World, (convert 43 9 (.slice (some ⟨W.heap.size, 0, none⟩) 5 5)).run Try.prog (W.alloc (.cells #[.int .u8 34, .int .u8 97, .int .u8 92, .int .u8 110, .int .u8 34] 5)) = .ok (.string ⟨#[34, 97, 92, 110, 34]⟩) (W.alloc (.cells #[.int .u8 34, .int .u8 97, .int .u8 92, .int .u8 110, .int .u8 34] 5)) := fun W => conv_new W [34, 97, 92, 110, 34]
  simp only [lex_ex] at L
  simp only [show_ex] at S
  simp only [key_ex1] at K1
  simp only [key_ex2] at K2
  simp only [right_ex] at R
  simp only [word_ex] at O
  simp only [quote_ex] at Q
  simp only [same_self] at M
  have LL := Lib.hid L
  have SS := Lib.hid S
  have KK1 := Lib.hid K1
  have KK2 := Lib.hid K2
  have RR := Lib.hid R
  have OO := Lib.hid O
  have QQ := Lib.hid Q
  have MM := Lib.hid M
  clear L S K1 K2 R O Q M
  go_enter Try.func10, Try.ntmps10
  go_wp2_with fail
  refine (LL.out _).mono ?_
  rintro e w1 ⟨v1, rfl, t1, b1⟩
  obtain ⟨b, off, c, rfl, hb, hc⟩ := toks_some (n := 5) t1 rfl
  have T1 := Lib.hid t1
  have B1 := Lib.hid b1
  have HC := Lib.hid hc
  clear t1 b1 hc
  go_wp2_with fail
  refine (SS.out _ _ T1.out).mono ?_
  rintro e w2 ⟨rfl, b2⟩
  have c2 := HC.out.below hb b2
  have T2 := Lib.hid (T1.out.below b2)
  have hb2 : b < w2.heap.size := Nat.lt_of_lt_of_le hb b2.size
  have B2 := Lib.hid (B1.out.trans (b2.mono B1.out.size))
  have q0 := c2.tok 0 (by decide)
  have q1 := c2.tok 1 (by decide)
  have q5 := c2.tok 5 (by decide)
  simp only [Nat.zero_mul, Nat.add_zero, Nat.one_mul, tks, List.getD_cons_zero, List.getD_cons_succ] at q0 q1 q5
  go_wp2_with fail
  have C2 := Lib.hid c2
  clear q0 q1 q5 c2 b2 T1
  simp only [List.append_eq, List.cons_append, List.nil_append]
  rw [← cv63_is]
  have hcv63 := cv63_is
  go_region_held3 (fun w' => Below w2.heap.size w2 w' ∧ AwS b off w') (first | exact aw_s C2.out hb2 (aw_drew _) | exact aw_s C2.out hb2 (by assumption) | exact aw_s C2.out hb2 (aw_alloc (by assumption) _)) ((first
    | (go_at_call 24; first
      | ((with_reducible refine (KK1.out _).mono ?_); rintro e wz ⟨rfl, rfl⟩)
      | ((with_reducible refine (KK2.out _).mono ?_); rintro e wz ⟨rfl, rfl⟩))
    | (go_at_call 20; refine (RR.out _).mono ?_; rintro e wz ⟨rfl, bz⟩; have bz' := aw_next (W := w2) (by first | exact And.left (by assumption) | assumption | exact aw_drew _) bz)
    | (go_at_call 22; refine (OO.out _).mono ?_; rintro e wz ⟨rfl, bz⟩; have bz' := aw_next (W := w2) (by first | exact And.left (by assumption) | assumption | exact aw_drew _) bz)
    | (go_at_call 26; refine (QQ.out _).mono ?_; rintro e wz ⟨rfl, bz⟩; (try have hcx := conv_q bz); have bz' := aw_next (W := w2) (by first | exact And.left (by assumption) | assumption | exact aw_drew _) bz)
    | (go_at_call 19; refine (MM.out _ _ (ToksAt.below T2.out (by first | exact And.left (by assumption) | assumption)) (ToksAt.below T2.out (by first | exact And.left (by assumption) | assumption))).mono ?_; rintro e wz ⟨rfl, bz⟩; have bz' := aw_next (W := w2) (by first | exact And.left (by assumption) | assumption | exact aw_drew _) bz)))
  all_goals
    go_wp2_with fail
    go_ret
    exact ⟨rfl, aw_next B2.out (by first | exact And.left (by assumption) | assumption)⟩
end Go.Proofs.Ytgcojmjllpjefaa
