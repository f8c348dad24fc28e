/- Rows of the call's own: bytes and tokens that are gathered, append to them, and the string that the bytes are. -/
import Derived.Test.YtkmgapieoedelaaChars
import Derived.Test.YtkmgapieoedelaaSpan
import Derived.Deep.QuietTactic
import Derived.BigQuiet
import Derived.Maps.AppendAt
import Derived.Lib.AppendStr
namespace Go
open Go.RowKit
theorem World.ownsRow.after {w w' : World} {base size n : Nat} {e : TypeId} {v : Value} {xs : List Value} (h : w.ownsRow base e size v n xs) (b : Below w.heap.size w w') : w'.ownsRow base e size v n xs := by
  obtain ⟨hl, h⟩ := h
  refine ⟨hl, ?_⟩
  rcases h with h | ⟨g, cap, cur, hv, hb, hg, hr⟩
  · exact .inl h
  · exact .inr ⟨g, cap, cur, hv, hb, (b.block g (Array.getElem?_eq_some_iff.1 hg).1).trans hg, hr⟩
theorem World.ownsRow.form {w : World} {base size n : Nat} {e : TypeId} {v : Value} {xs : List Value} (h : w.ownsRow base e size v n xs) : ∃ p cap, v = .slice p n cap := by
  obtain ⟨_, ⟨rfl, rfl⟩ | ⟨g, cap, cur, hv, hr⟩⟩ := h
  · exact ⟨none, 0, rfl⟩
  · exact ⟨_, cap, hv⟩
end Go
namespace Go.Proofs.Ytkmgapieoedelaa
open Go.RowKit Go.Proofs.LexMath

def byteVals (l : Bs) : List Value := l.map fun c => .int .u8 (iv c)
theorem byteVals_len (l : Bs) : (byteVals l).length = l.length := by simp [byteVals]
/-- Bytes in a row of the call's own. -/
def BRow (base : Nat) (w : World) (v : Value) (n : Nat) (l : Bs) : Prop := w.ownsRow base 5 1 v n (byteVals l)
theorem BRow.len {base n : Nat} {w : World} {v : Value} {l : Bs} (h : BRow base w v n l) : l.length = n := by
  have := h.1
  rw [byteVals_len] at this
  omega
theorem BRow.nil (base : Nat) (w : World) : BRow base w (.slice none 0 0) 0 [] := World.ownsRow_nil _ _ _ _
theorem BRow.after {base n : Nat} {w w' : World} {v : Value} {l : Bs} (h : BRow base w v n l) (b : Below w.heap.size w w') : BRow base w' v n l := World.ownsRow.after h b
/-- Tokens in a row of the call's own. -/
def TRow (base : Nat) (w : World) (v : Value) (n : Nat) (l : List Tok) : Prop := w.ownsRow base 52 4 v n (tokCells l)
theorem TRow.len {base n : Nat} {w : World} {v : Value} {l : List Tok} (h : TRow base w v n l) : l.length = n := by
  have := h.1
  rw [length_tokCells] at this
  omega
theorem TRow.nil (base : Nat) (w : World) : TRow base w (.slice none 0 0) 0 [] := World.ownsRow_nil _ _ _ _
theorem TRow.after {base n : Nat} {w w' : World} {v : Value} {l : List Tok} (h : TRow base w v n l) (b : Below w.heap.size w w') : TRow base w' v n l := World.ownsRow.after h b
theorem TRow.at {base n : Nat} {w : World} {v : Value} {l : List Tok} (h : TRow base w v n l) : ToksAt w v l := by
  have e := h.len
  subst e
  exact SliceAt.of_owns h
end Go.Proofs.Ytkmgapieoedelaa
