/-
  An op out of the reading of an argument (layer 11).
-/
import Derived.Test.YtdfonlbbohnfhaaDoorOpWL
import Derived.Test.YtdfonlbbohnfhaaDoorOpenGrid
import Derived.Test.YtdfonlbbohnfhaaDoorBase
namespace Go.Law
open Go.RowKit Go.ChangeShapes Go.WideShapes Go.ChangeAt
theorem bounds_i64 {a : Int} (h : (Lit.int .i64 a).wf = true) : -9223372036854775808 ≤ a ∧ a ≤ 9223372036854775807 := by simpa [Lit.wf, IntKind.min, IntKind.max, IntKind.signed, IntKind.bits] using h
def cellsW (q : OpW) : List Value := [.int .i64 q.kind, .string q.user, .int .i64 q.id, .int .i64 q.st, .int .i64 q.pr, .int .u64 q.ttl, .slice q.A q.us.length q.c]
section
variable {H : Type} {enc : TypeId × Value → H} {P : Program} {W : World} {base : Nat} {sp : Nat → Bool} {hd : Bool} {fuel : Nat} {cs : List Value} {x : DataW H × List MemPlace}
theorem flat_str : ∀ l : List ByteArray, l.flatMap (fun u => [Value.string u]) = l.map .string
  | [] => rfl
  | u :: r => by rw [List.flatMap_cons, List.map_cons, flat_str r]; rfl
theorem dec_opW {o ts : TypeId} {g0 g1 g2 g3 g4 g5 g6 : Field} (ho : P.underlying o = some (.struct #[g0, g1, g2, g3, g4, g5, g6])) (co : P.cellsOf o = 7)
    (o0 : g0.offset = 0) (o1 : g1.offset = 1) (o2 : g2.offset = 2) (o3 : g3.offset = 3) (o4 : g4.offset = 4) (o5 : g5.offset = 5) (o6 : g6.offset = 6)
    (c0 : P.cellsOf g0.type = 1) (c1 : P.cellsOf g1.type = 1) (c2 : P.cellsOf g2.type = 1) (c3 : P.cellsOf g3.type = 1) (c4 : P.cellsOf g4.type = 1) (c5 : P.cellsOf g5.type = 1) (c6 : P.cellsOf g6.type = 1)
    (u0 : P.underlying g0.type = some (.int .i64)) (u1 : P.underlying g1.type = some .string) (u2 : P.underlying g2.type = some (.int .i64)) (u3 : P.underlying g3.type = some (.int .i64)) (u4 : P.underlying g4.type = some (.int .i64)) (u5 : P.underlying g5.type = some (.int .u64)) (u6 : P.underlying g6.type = some (.slice ts)) (us : P.underlying ts = some .string) (cs1 : P.cellsOf ts = 1)
    (h : DataW.trod enc P W base sp hd fuel o cs = some x) : ∃ q : OpW, cs = cellsW q ∧ q.In W := by
  obtain ⟨xs, n, _, _, hl, hxl, hf⟩ := DataW.trod_struct ho h
  rw [co] at hl
  match cs, hl, xs, hxl with
  | [v0, v1, v2, v3, v4, v5, v6], _, [y0, y1, y2, y3, y4, y5, y6], _ =>
    have k0 := hf 0 g0 rfl
    have k1 := hf 1 g1 rfl
    have k2 := hf 2 g2 rfl
    have k3 := hf 3 g3 rfl
    have k4 := hf 4 g4 rfl
    have k5 := hf 5 g5 rfl
    have k6 := hf 6 g6 rfl
    simp [o0, o1, o2, o3, o4, o5, o6, c0, c1, c2, c3, c4, c5, c6] at k0 k1 k2 k3 k4 k5 k6
    obtain ⟨a0, e0, _, w0⟩ := DataW.trod_int u0 k0
    obtain ⟨a1, e1, _, w1⟩ := DataW.trod_string u1 k1
    obtain ⟨a2, e2, _, w2⟩ := DataW.trod_int u2 k2
    obtain ⟨a3, e3, _, w3⟩ := DataW.trod_int u3 k3
    obtain ⟨a4, e4, _, w4⟩ := DataW.trod_int u4 k4
    obtain ⟨a5, e5, _, w5⟩ := DataW.trod_int u5 k5
    obtain ⟨A, c, l, e6, hc, hs, hl6, hq⟩ := open_rowsT (Good := fun u : ByteArray => u.size ≤ maxLen) (fun u => [Value.string u]) (sz := 1) (fun _ => rfl) u6 cs1 (by decide) (fun fuel cs x hf => by
      obtain ⟨z, e, _, hz⟩ := DataW.trod_string us hf
      exact ⟨z, e, hz⟩) k6
    simp at e0 e1 e2 e3 e4 e5 e6
    subst e0 e1 e2 e3 e4 e5 e6
    refine ⟨⟨a0, a1, a2, a3, a4, a5, A, c, l⟩, rfl, ⟨?_, hl6, hc, hq, w1, bounds_i64 w0, bounds_i64 w2, bounds_i64 w3, bounds_i64 w4, bounds_u64 w5⟩⟩
    rw [← flat_str]
    exact hs
end
end Go.Law
namespace Go.Proofs.YtdfonlbbohnfhaaDoor
open Go.RowKit Go.ChangeShapes Go.WideShapes Go.ChangeAt
namespace Opx
open Go.Law
theorem decOp {H : Type} {enc : TypeId × Value → H} {W : World} {base : Nat} {sp : Nat → Bool} {hd : Bool} (fuel : Nat) (cs : List Value) (x : DataW H × List MemPlace) (h : DataW.trod enc Tryd.prog W base sp hd fuel 25 cs = some x) : ∃ q : OpW, cs = cellsW q ∧ q.In W :=
  dec_opW Tryd.underlying25 (by kernel_rfl) rfl rfl rfl rfl rfl rfl rfl (by kernel_rfl) (by kernel_rfl) (by kernel_rfl) (by kernel_rfl) (by kernel_rfl) (by kernel_rfl) (by kernel_rfl)
    Tryd.underlying3 Tryd.underlying9 Tryd.underlying3 Tryd.underlying3 Tryd.underlying3 Tryd.underlying22 Tryd.underlying23 Tryd.underlying9 (by kernel_rfl) h
theorem open_op {H : Type} {enc : TypeId × Value → H} {W : World} {base b0 : Nat} {sp : Nat → Bool} {hd : Bool} {v : Value} {d : DataW H} {p : List MemPlace}
    (hv : Value.okWide Tryd.prog W .any b0 25 v) (h : DataW.Trod enc Tryd.prog W base sp hd 25 v d p) : ∃ q : OpW, v = .agg q.box ∧ q.In W := by
  obtain ⟨q, e, hg⟩ := open_struct cellsW Tryd.underlying25 decOp hv h
  exact ⟨q, e, hg⟩
end Opx
end Go.Proofs.YtdfonlbbohnfhaaDoor
