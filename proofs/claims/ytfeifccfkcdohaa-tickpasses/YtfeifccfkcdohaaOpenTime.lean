/-
  An argument of type api.Time, opened: two numbers of 64 bits and a bool.
-/
import Derived.Test.YtfeifccfkcdohaaBase
import Derived.Test.YtfeifccfkcdohaaTick01
import Derived.Lib.SmallJoins
namespace Go.Proofs.Ytfeifccfkcdohaa
open Go.ChangeShapes Go.WideShapes Go.ChangeAt Go.RowKit Go.Joins
theorem cellsTime : Try.prog.cellsOf 24 = 3 := by kernel_rfl
theorem open_time {H : Type} {enc : TypeId × Value → H} {W : World} {base b0 : Nat} {sp : Nat → Bool} {hd : Bool} {v : Value} {d : DataW H} {p : List MemPlace}
    (hv : Value.okWide Try.prog W .any b0 24 v) (h : DataW.Trod enc Try.prog W base sp hd 24 v d p) :
    ∃ (n s : Int) (c : Bool), v = Tick.T n s c ∧ Door.U n ∧ Door.U s := by
  obtain ⟨c0, c1, c2, y0, y1, y2, m, rfl, _, _, hy0, hy1, hy2⟩ := open_agg3 Try.underlying24 (by kernel_rfl) cellsTime hv h
  obtain ⟨n, e0, _, wn⟩ := DataW.trod_int Try.underlying22 hy0
  obtain ⟨s, e1, _, ws⟩ := DataW.trod_int Try.underlying22 hy1
  obtain ⟨c, e2, _⟩ := DataW.trod_bool Try.underlying4 hy2
  simp at e0 e1 e2
  subst e0 e1 e2
  exact ⟨n, s, c, rfl, ofwf wn, ofwf ws⟩
end Go.Proofs.Ytfeifccfkcdohaa
