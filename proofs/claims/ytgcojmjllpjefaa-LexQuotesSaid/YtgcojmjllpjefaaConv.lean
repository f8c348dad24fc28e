/- The string that the bytes of a new block are. -/
import Derived.Test.YtgcojmjllpjefaaExact
namespace Go.Proofs.Ytgcojmjllpjefaa
open Go.RowKit Go.Proofs.LexMath

theorem conv_new (W : World) (l : Bs) : (convert 43 9 (.slice (some ⟨W.heap.size, 0, none⟩) l.length l.length)).run Try.prog (W.alloc (.cells (byteVals l).toArray 5)) = .ok (.string (bs l)) (W.alloc (.cells (byteVals l).toArray 5)) := by
  rw [← strOf]
  refine run_convert_bytes_arg _ 43 5 Try.underlying43 Try.underlying5 W.heap.size 0 l.length l.length (l.map iv) (by simp) (fun i hi => ?_) 9 Try.underlying9
  rw [Nat.zero_add, cells_new]
  simp [byteVals, List.getD_eq_getElem?_getD, List.getElem?_eq_getElem hi]
end Go.Proofs.Ytgcojmjllpjefaa
