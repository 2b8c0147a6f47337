/-
  A reply out of the reading of an argument (layer 11).
-/
import Derived.Test.YtdfonlbbohnfhaaDoorOpLosP
import Derived.Test.YtdfonlbbohnfhaaDoorOpDec
namespace Go.Law
open Go.RowKit Go.ChangeShapes Go.WideShapes Go.ChangeAt Go.Proofs.YtdfonlbbohnfhaaDoor.Opx
def rawE (q : Ev) : Prop := q.us.size ≤ maxLen ∧ I64 q.o1 ∧ I64 q.o2 ∧ I64 q.o3 ∧ I64 q.n1 ∧ I64 q.n2 ∧ I64 q.n3 ∧ 0 ≤ q.sq ∧ q.sq < 18446744073709551616
structure RepRaw (q : RepW) (w : World) : Prop where
  vs : Seq w 0 w.heap.size q.A (flatP3 q.vs)
  es : Seq w 0 w.heap.size q.E (flatE q.es)
  pv : ∀ p ∈ q.vs, okP p
  ev : ∀ p ∈ q.es, rawE p
  err : I64 q.err
  lv : q.vs.length ≤ maxLen
  le : q.es.length ≤ maxLen
theorem RepRaw.below {q : RepW} {w w' : World} (h : RepRaw q w) (hb : Below w.heap.size w w') : RepRaw q w' := ⟨(h.vs.below hb).more hb.size, (h.es.below hb).more hb.size, h.pv, h.ev, h.err, h.lv, h.le⟩
def cellsRep (q : RepW) : List Value := [.int .i64 q.err, .slice q.A q.vs.length q.cA, .slice q.E q.es.length q.cE, .bool q.lost]
section
variable {H : Type} {enc : TypeId × Value → H} {P : Program} {W : World} {base : Nat} {sp : Nat → Bool} {hd : Bool} {fuel : Nat} {cs : List Value} {x : DataW H × List MemPlace}
theorem dec_p3 {o : TypeId} {g0 g1 g2 : Field} (ho : P.underlying o = some (.struct #[g0, g1, g2])) (co : P.cellsOf o = 3) (o0 : g0.offset = 0) (o1 : g1.offset = 1) (o2 : g2.offset = 2)
    (c0 : P.cellsOf g0.type = 1) (c1 : P.cellsOf g1.type = 1) (c2 : P.cellsOf g2.type = 1) (u0 : P.underlying g0.type = some (.int .i64)) (u1 : P.underlying g1.type = some (.int .i64)) (u2 : P.underlying g2.type = some (.int .i64))
    (h : DataW.trod enc P W base sp hd fuel o cs = some x) : ∃ q : P3, cs = cellsP3 q ∧ okP q := by
  obtain ⟨xs, n, _, _, hl, hxl, hf⟩ := DataW.trod_struct ho h
  rw [co] at hl
  match cs, hl, xs, hxl with
  | [v0, v1, v2], _, [y0, y1, y2], _ =>
    have k0 := hf 0 g0 rfl
    have k1 := hf 1 g1 rfl
    have k2 := hf 2 g2 rfl
    simp [o0, o1, o2, c0, c1, c2] at k0 k1 k2
    obtain ⟨a0, e0, _, w0⟩ := DataW.trod_int u0 k0
    obtain ⟨a1, e1, _, w1⟩ := DataW.trod_int u1 k1
    obtain ⟨a2, e2, _, w2⟩ := DataW.trod_int u2 k2
    simp at e0 e1 e2
    subst e0 e1 e2
    exact ⟨(a0, a1, a2), rfl, bounds_i64 w0, bounds_i64 w1, bounds_i64 w2⟩
theorem dec_evr {e : TypeId} {f0 f1 f2 f3 : Field} (he : P.underlying e = some (.struct #[f0, f1, f2, f3])) (ce : P.cellsOf e = 8) (o0 : f0.offset = 0) (o1 : f1.offset = 1) (o2 : f2.offset = 4) (o3 : f3.offset = 7)
    (c0 : P.cellsOf f0.type = 1) (c1 : P.cellsOf f1.type = 3) (c2 : P.cellsOf f2.type = 3) (c3 : P.cellsOf f3.type = 1) (u0 : P.underlying f0.type = some .string) (u3 : P.underlying f3.type = some (.int .u64))
    (d1 : ∀ fuel cs x, DataW.trod enc P W base sp hd fuel f1.type cs = some x → ∃ q : P3, cs = cellsP3 q ∧ okP q) (d2 : ∀ fuel cs x, DataW.trod enc P W base sp hd fuel f2.type cs = some x → ∃ q : P3, cs = cellsP3 q ∧ okP q)
    (h : DataW.trod enc P W base sp hd fuel e cs = some x) : ∃ q : Ev, cs = cellsE q ∧ rawE q := by
  obtain ⟨xs, n, _, _, hl, hxl, hf⟩ := DataW.trod_struct he h
  rw [ce] at hl
  match cs, hl, xs, hxl with
  | [v0, v1, v2, v3, v4, v5, v6, v7], _, [y0, y1, y2, y3], _ =>
    have k0 := hf 0 f0 rfl
    have k1 := hf 1 f1 rfl
    have k2 := hf 2 f2 rfl
    have k3 := hf 3 f3 rfl
    simp [o0, o1, o2, o3, c0, c1, c2, c3] at k0 k1 k2 k3
    obtain ⟨a0, e0, _, w0⟩ := DataW.trod_string u0 k0
    obtain ⟨⟨a1, b1, z1⟩, e1, g1, g2, g3⟩ := d1 _ _ _ k1
    obtain ⟨⟨a2, b2, z2⟩, e2, g4, g5, g6⟩ := d2 _ _ _ k2
    obtain ⟨a3, e3, _, w3⟩ := DataW.trod_int u3 k3
    simp [cellsP3] at e0 e1 e2 e3
    obtain ⟨rfl, rfl, rfl⟩ := e1
    obtain ⟨rfl, rfl, rfl⟩ := e2
    subst e0 e3
    have hb := bounds_u64 w3
    exact ⟨⟨a0, a1, b1, z1, a2, b2, z2, a3⟩, rfl, w0, g1, g2, g3, g4, g5, g6, hb.1, by show a3 < _; omega⟩
theorem dec_rep {o tp te : TypeId} {g0 g1 g2 g3 : Field} (ho : P.underlying o = some (.struct #[g0, g1, g2, g3])) (co : P.cellsOf o = 4)
    (o0 : g0.offset = 0) (o1 : g1.offset = 1) (o2 : g2.offset = 2) (o3 : g3.offset = 3)
    (c0 : P.cellsOf g0.type = 1) (c1 : P.cellsOf g1.type = 1) (c2 : P.cellsOf g2.type = 1) (c3 : P.cellsOf g3.type = 1)
    (u0 : P.underlying g0.type = some (.int .i64)) (u1 : P.underlying g1.type = some (.slice tp)) (u2 : P.underlying g2.type = some (.slice te)) (u3 : P.underlying g3.type = some .bool)
    (cp : P.cellsOf tp = 3) (ct : P.cellsOf te = 8)
    (dp : ∀ fuel cs x, DataW.trod enc P W base sp hd fuel tp cs = some x → ∃ q : P3, cs = cellsP3 q ∧ okP q)
    (de : ∀ fuel cs x, DataW.trod enc P W base sp hd fuel te cs = some x → ∃ q : Ev, cs = cellsE q ∧ rawE q)
    (h : DataW.trod enc P W base sp hd fuel o cs = some x) : ∃ q : RepW, cs = cellsRep q ∧ RepRaw q W := by
  obtain ⟨xs, n, _, _, hl, hxl, hf⟩ := DataW.trod_struct ho h
  rw [co] at hl
  match cs, hl, xs, hxl with
  | [v0, v1, v2, v3], _, [y0, y1, y2, y3], _ =>
    have k0 := hf 0 g0 rfl
    have k1 := hf 1 g1 rfl
    have k2 := hf 2 g2 rfl
    have k3 := hf 3 g3 rfl
    simp [o0, o1, o2, o3, c0, c1, c2, c3] at k0 k1 k2 k3
    obtain ⟨a0, e0, _, w0⟩ := DataW.trod_int u0 k0
    obtain ⟨A, cA, l1, e1, _, s1, hl1, q1⟩ := open_rowsT cellsP3 (sz := 3) (fun _ => rfl) u1 cp (by decide) dp k1
    obtain ⟨E, cE, l2, e2, _, s2, hl2, q2⟩ := open_rowsT cellsE (sz := 8) (fun _ => rfl) u2 ct (by decide) de k2
    obtain ⟨a3, e3, _⟩ := DataW.trod_bool u3 k3
    simp at e0 e1 e2 e3
    subst e0 e1 e2 e3
    exact ⟨⟨a0, A, cA, l1, E, cE, l2, a3⟩, rfl, ⟨s1, s2, q1, q2, bounds_i64 w0, hl1, hl2⟩⟩
end
end Go.Law
namespace Go.Proofs.YtdfonlbbohnfhaaDoor
open Go.RowKit Go.ChangeShapes Go.WideShapes Go.ChangeAt
namespace Opx
open Go.Law
section
variable {H : Type} {enc : TypeId × Value → H} {W : World} {base : Nat} {sp : Nat → Bool} {hd : Bool}
theorem decP3 (fuel : Nat) (cs : List Value) (x : DataW H × List MemPlace) (h : DataW.trod enc Tryd.prog W base sp hd fuel 36 cs = some x) : ∃ q : P3, cs = cellsP3 q ∧ okP q :=
  dec_p3 Tryd.underlying36 (by kernel_rfl) rfl rfl rfl (by kernel_rfl) (by kernel_rfl) (by kernel_rfl) Tryd.underlying3 Tryd.underlying3 Tryd.underlying3 h
theorem decEv (fuel : Nat) (cs : List Value) (x : DataW H × List MemPlace) (h : DataW.trod enc Tryd.prog W base sp hd fuel 38 cs = some x) : ∃ q : Ev, cs = cellsE q ∧ rawE q :=
  dec_evr Tryd.underlying38 (by kernel_rfl) rfl rfl rfl rfl (by kernel_rfl) (by kernel_rfl) (by kernel_rfl) (by kernel_rfl) Tryd.underlying9 Tryd.underlying22 (fun f c x h => decP3 f c x h) (fun f c x h => decP3 f c x h) h
theorem decRep (fuel : Nat) (cs : List Value) (x : DataW H × List MemPlace) (h : DataW.trod enc Tryd.prog W base sp hd fuel 30 cs = some x) : ∃ q : RepW, cs = cellsRep q ∧ RepRaw q W :=
  dec_rep Tryd.underlying30 (by kernel_rfl) rfl rfl rfl rfl (by kernel_rfl) (by kernel_rfl) (by kernel_rfl) (by kernel_rfl) Tryd.underlying26 Tryd.underlying27 Tryd.underlying28 Tryd.underlying4 (by kernel_rfl) (by kernel_rfl) (fun f c x h => decP3 f c x h) (fun f c x h => decEv f c x h) h
theorem open_rep {b0 : Nat} {v : Value} {d : DataW H} {p : List MemPlace}
    (hv : Value.okWide Tryd.prog W .any b0 30 v) (h : DataW.Trod enc Tryd.prog W base sp hd 30 v d p) : ∃ q : RepW, v = .agg q.box ∧ RepRaw q W := by
  obtain ⟨q, e, hg⟩ := open_struct cellsRep Tryd.underlying30 decRep hv h
  exact ⟨q, e, hg⟩
end
end Opx
end Go.Proofs.YtdfonlbbohnfhaaDoor
