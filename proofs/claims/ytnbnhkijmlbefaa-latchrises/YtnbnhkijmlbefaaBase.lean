/-
  Two closed facts of the program, and what a number that fits 64 bits is.
-/
import Derived.Test.YtnbnhkijmlbefaaRows
import Derived.Test.YtnbnhkijmlbefaaPlain01
import Derived.Test.YtnbnhkijmlbefaaFrame
namespace Go.Proofs.Ytnbnhkijmlbefaa
theorem own : ownKnob Try.prog.godebug = none := by kernel_rfl
theorem laidOut : laidOutB Try.prog = true := by kernel_rfl
theorem ofwf {a : Int} (h : (Lit.int .u64 a).wf = true) : Door.U a := by have := bounds_u64 h; unfold Door.U Door.top; omega
end Go.Proofs.Ytnbnhkijmlbefaa
