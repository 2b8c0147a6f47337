/-
  Two closed facts of the program, and what a number that fits 64 bits is.
-/
import Derived.Test.YtgnfgiiifohjhaaRows
import Derived.Test.YtgnfgiiifohjhaaPlain01
import Derived.Test.YtgnfgiiifohjhaaFrame
namespace Go.Proofs.Ytgnfgiiifohjhaa
theorem own : ownKnob Try.prog.godebug = none := by kernel_rfl
theorem laidOut : laidOutB Try.prog = true := by kernel_rfl
theorem ofwf {a : Int} (h : (Lit.int .u64 a).wf = true) : Door.U a := by have := bounds_u64 h; unfold Door.U Door.top; omega
end Go.Proofs.Ytgnfgiiifohjhaa
