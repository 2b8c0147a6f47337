/-
  An argument of type api.Session, opened.
-/
import Derived.Test.YtmcbjfmlncellaaSessC
import Derived.Test.YtmcbjfmlncellaaOpenSes
namespace Go.Proofs.Ytmcbjfmlncellaa
open Go.ChangeShapes Go.WideShapes Go.ChangeAt Go.RowKit Go.Joins
theorem cellsSess : Try.prog.cellsOf 30 = 4 := by kernel_rfl
theorem open_one {H : Type} {enc : TypeId × Value → H} {W : World} {base b0 : Nat} {sp : Nat → Bool} {hd : Bool} {v : Value} {d : DataW H} {p : List MemPlace}
    (hv : Value.okWide Try.prog W .any b0 30 v) (h : DataW.Trod enc Try.prog W base sp hd 30 v d p) : ∃ s : Law.Sn, v = Law.V s := by
  obtain ⟨c0, c1, c2, c3, y0, y1, y2, y3, m, rfl, _, _, hy0, hy1, hy2, hy3⟩ := open_agg4 Try.underlying30 (by kernel_rfl) cellsSess hv h
  obtain ⟨n0, e0, _⟩ := DataW.trod_int Try.underlying3 hy0
  obtain ⟨n1, e1, _⟩ := DataW.trod_int Try.underlying3 hy1
  obtain ⟨n2, e2, _⟩ := DataW.trod_int Try.underlying3 hy2
  obtain ⟨n3, e3, _⟩ := DataW.trod_int Try.underlying23 hy3
  simp at e0 e1 e2 e3
  subst e0 e1 e2 e3
  exact ⟨(n0, n1, n2, n3), rfl⟩
end Go.Proofs.Ytmcbjfmlncellaa
