/- The contract of word.Read: a text that is the text of a number of the language is read as that number; any other text is refused; nothing that was there is written. -/
import Derived.Test.YtkmgapieoedelaaArith
import Derived.Test.YtkmgapieoedelaaDigs
import Derived.Outline
import Derived.Below
import Derived.LoopTactic
import Derived.Laws.Rows
import Derived.Laws.BytesArg
import Derived.Laws.RangeAny
namespace Go.Proofs.Ytkmgapieoedelaa
open Go.RowKit

theorem width_pos (s : ByteArray) (pos : Nat) (h : pos < s.size) : 1 ≤ (Utf8.decode s pos).2 := by
  by_cases ha : (s[pos]'h).toNat < 128
  · rw [decode_ascii s pos h ha]
    exact Nat.le_refl _
  · exact (decode_high s pos h (by omega)).2
theorem below_iter (w : World) (s : ByteArray) (pos : Nat) : Below w.heap.size w (w.iter s pos) := (Below.refl _ _).alloc (Nat.le_refl _) _
theorem size_iter (w : World) (s : ByteArray) (pos : Nat) : (w.iter s pos).heap.size = w.heap.size + 1 := by simp [World.iter]
end Go.Proofs.Ytkmgapieoedelaa
