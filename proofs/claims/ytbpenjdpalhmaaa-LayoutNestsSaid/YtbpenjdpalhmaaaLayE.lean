/- What the laws share: the contracts in one form. -/
import Derived.Test.YtbpenjdpalhmaaaAwake
namespace Go.Proofs.Ytbpenjdpalhmaaa
open Go.Shelf Go.RowKit Go.Lib Go.Sort Go.Proofs.TreeMath
def RTb (l : List UInt8) (x : Int) (W : World) (e : Ending) (w' : World) : Prop := e = .returned (.tuple #[.string (bs l), .int .i64 x]) ∧ Below W.heap.size W w'
theorem RT.b {l : List UInt8} {x : Int} {W : World} {e : Ending} {w' : World} (h : RT l x W e w') : RTb l x W e w' := h
theorem lno (v : Value) (ns : List Nd) (wd : Int) (w : World) (h : NodesAt w v ns) (hn : ns.length ≤ 1000000) (hd : docB ns = false) : Calls Try.prog 10 #[v, .int .i64 wd] w (RTb [] 50 w) := (layout_no v ns wd w h hn hd).mono fun _ _ h => h.b
theorem lwd (v : Value) (ns : List Nd) (wd : Int) (w : World) (h : NodesAt w v ns) (hn : ns.length ≤ 1000000) (hd : docB ns = true) (hw : wd < 1 ∨ 1000 < wd) : Calls Try.prog 10 #[v, .int .i64 wd] w (RTb [] 51 w) := (layout_width v ns wd w h hn hd hw).mono fun _ _ h => h.b
theorem lyes (v : Value) (ns : List Nd) (f : F) (wd : Nat) (w : World) (h : NodesAt w v ns) (hf : IsDoc f ns) (h1 : 1 ≤ wd) (h2 : wd ≤ 1000) : Calls Try.prog 10 #[v, .int .i64 (wd : Int)] w (RTb (layT wd f 0 0 false) 0 w) := (layout_yes v ns f wd w h hf h1 h2).mono fun _ _ h => h.b
theorem fno (v : Value) (ns : List Nd) (w : World) (h : NodesAt w v ns) (hn : ns.length ≤ 1000000) (hd : docB ns = false) : Calls Try.prog 12 #[v] w (RTb [] 50 w) := (flat_no v ns w h hn hd).mono fun _ _ h => h.b
theorem fyes (v : Value) (ns : List Nd) (f : F) (w : World) (h : NodesAt w v ns) (hf : IsDoc f ns) : Calls Try.prog 12 #[v] w (RTb (flatT f) 0 w) := (flat_yes v ns f w h hf).mono fun _ _ h => h.b
theorem own_bel (v : Value) (ns : List Nd) (w W : World) (h : NodesAt w v ns) (hn : ns.length ≤ 1000000) (hW : Below w.heap.size w W) : Calls Try.prog 11 #[v] W (NRet W ns) := own_any v ns W (h.below hW) hn
theorem bs_nil : (bs []) = ByteArray.empty := rfl
end Go.Proofs.Ytbpenjdpalhmaaa
