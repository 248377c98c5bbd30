/- Texts of this proof, one behind the other. -/
import Derived.Lib.Hide
import Derived.Test.YtmmhcaeaddkcmaaGreatDoorRows
namespace Go.Proofs.YtmmhcaeaddkcmaaGreatDoor
open Go.RowKit
theorem hbt {w a b : World} (h : Hid (Below w.heap.size w a)) (k : Below a.heap.size a b) : Hid (Below w.heap.size w b) := Lib.hid (h.out.trans (k.mono h.out.size))
abbrev CQ (f : FuncId) (args : Array Value) (v : Value) : Prop := ∀ W, Calls Tryz.prog f args W fun e w' => e = .returned v ∧ Below W.heap.size W w'
abbrev CR (f : FuncId) (args : Array Value) (w : World) (v : Value) : Prop := Calls Tryz.prog f args w fun e w' => e = .returned v ∧ Below w.heap.size w w'
end Go.Proofs.YtmmhcaeaddkcmaaGreatDoor
