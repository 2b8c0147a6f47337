/-
  Two closed facts of the program, and what a number that fits 64 bits is.
-/
import Derived.Test.YtdfonlbbohnfhaaDoorRows
import Derived.Test.YtdfonlbbohnfhaaDoorPlain01
import Derived.Test.YtdfonlbbohnfhaaDoorFrame
namespace Go.Proofs.YtdfonlbbohnfhaaDoor
theorem own : ownKnob Tryd.prog.godebug = none := by kernel_rfl
theorem laidOut : laidOutB Tryd.prog = true := by kernel_rfl
theorem ofwf {a : Int} (h : (Lit.int .u64 a).wf = true) : Door.U a := by have := bounds_u64 h; unfold Door.U Door.top; omega
end Go.Proofs.YtdfonlbbohnfhaaDoor
