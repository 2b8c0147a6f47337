/-
  What an api.Op is in memory, and an act of layer 8's statements (Sweep, Op, By): their cells, out of the reading of an argument. General over programs.
-/
import Derived.Test.YtdkjcheannehhaaGreatOpenRows
namespace Go.Law
open Go.RowKit Go.ChangeShapes Go.WideShapes Go.ChangeAt
/-- an op: kind, user, id, status, prio, ttl, users (a slice, as it is) -/
structure OpV where
  kind : Int
  user : ByteArray
  id : Int
  st : Int
  pr : Int
  ttl : Int
  users : Value
def cellsO (q : OpV) : List Value := [.int .i64 q.kind, .string q.user, .int .i64 q.id, .int .i64 q.st, .int .i64 q.pr, .int .u64 q.ttl, q.users]
structure OpV.Good (q : OpV) : Prop where
  kind : (Lit.int .i64 q.kind).wf = true
  user : q.user.size ≤ maxLen
  id : (Lit.int .i64 q.id).wf = true
  st : (Lit.int .i64 q.st).wf = true
  pr : (Lit.int .i64 q.pr).wf = true
  ttl : (Lit.int .u64 q.ttl).wf = true
  users : ∃ A n c, q.users = .slice A n c
section
variable {H : Type} {enc : TypeId × Value → H} {P : Program} {W : World} {base : Nat} {sp : Nat → Bool} {hd : Bool} {fuel : Nat} {cs : List Value} {x : DataW H × List MemPlace}
theorem dec_op {o ts : TypeId} {g0 g1 g2 g3 g4 g5 g6 : Field} (ho : P.underlying o = some (.struct #[g0, g1, g2, g3, g4, g5, g6])) (co : P.cellsOf o = 7)
    (o0 : g0.offset = 0) (o1 : g1.offset = 1) (o2 : g2.offset = 2) (o3 : g3.offset = 3) (o4 : g4.offset = 4) (o5 : g5.offset = 5) (o6 : g6.offset = 6)
    (c0 : P.cellsOf g0.type = 1) (c1 : P.cellsOf g1.type = 1) (c2 : P.cellsOf g2.type = 1) (c3 : P.cellsOf g3.type = 1) (c4 : P.cellsOf g4.type = 1) (c5 : P.cellsOf g5.type = 1) (c6 : P.cellsOf g6.type = 1)
    (u0 : P.underlying g0.type = some (.int .i64)) (u1 : P.underlying g1.type = some .string) (u2 : P.underlying g2.type = some (.int .i64)) (u3 : P.underlying g3.type = some (.int .i64)) (u4 : P.underlying g4.type = some (.int .i64)) (u5 : P.underlying g5.type = some (.int .u64)) (u6 : P.underlying g6.type = some (.slice ts))
    (h : DataW.trod enc P W base sp hd fuel o cs = some x) : ∃ q : OpV, cs = cellsO q ∧ q.Good := by
  obtain ⟨xs, n, _, _, hl, hxl, hf⟩ := DataW.trod_struct ho h
  rw [co] at hl
  match cs, hl, xs, hxl with
  | [v0, v1, v2, v3, v4, v5, v6], _, [y0, y1, y2, y3, y4, y5, y6], _ =>
    have k0 := hf 0 g0 rfl
    have k1 := hf 1 g1 rfl
    have k2 := hf 2 g2 rfl
    have k3 := hf 3 g3 rfl
    have k4 := hf 4 g4 rfl
    have k5 := hf 5 g5 rfl
    have k6 := hf 6 g6 rfl
    simp [o0, o1, o2, o3, o4, o5, o6, c0, c1, c2, c3, c4, c5, c6] at k0 k1 k2 k3 k4 k5 k6
    obtain ⟨a0, e0, _, w0⟩ := DataW.trod_int u0 k0
    obtain ⟨a1, e1, _, w1⟩ := DataW.trod_string u1 k1
    obtain ⟨a2, e2, _, w2⟩ := DataW.trod_int u2 k2
    obtain ⟨a3, e3, _, w3⟩ := DataW.trod_int u3 k3
    obtain ⟨a4, e4, _, w4⟩ := DataW.trod_int u4 k4
    obtain ⟨a5, e5, _, w5⟩ := DataW.trod_int u5 k5
    have w6 : ∃ A n c, v6 = .slice A n c := by
      rcases Go.Deep.open_slice u6 k6 with ⟨hcs, _⟩ | ⟨_, _, _, _, _, _, _, hcs, _⟩
      · simp at hcs; exact ⟨_, _, _, hcs⟩
      · simp at hcs; exact ⟨_, _, _, hcs⟩
    simp at e0 e1 e2 e3 e4 e5
    subst e0 e1 e2 e3 e4 e5
    exact ⟨⟨a0, a1, a2, a3, a4, a5, v6⟩, rfl, w0, w1, w2, w3, w4, w5, w6⟩
/-- an act: whether it is a sweep; else an op; behind so much time -/
structure ActV where
  sweep : Bool
  op : OpV
  by_ : Int
def cellsA (q : ActV) : List Value := .bool q.sweep :: (cellsO q.op ++ [.int .u64 q.by_])
theorem cellsA_length (q : ActV) : (cellsA q).length = 9 := rfl
structure ActV.Good (q : ActV) : Prop where
  op : q.op.Good
  by_ : (Lit.int .u64 q.by_).wf = true
theorem dec_act {e : TypeId} {f0 f1 f2 : Field} (he : P.underlying e = some (.struct #[f0, f1, f2])) (ce : P.cellsOf e = 9) (o0 : f0.offset = 0) (o1 : f1.offset = 1) (o2 : f2.offset = 8)
    (c0 : P.cellsOf f0.type = 1) (c1 : P.cellsOf f1.type = 7) (c2 : P.cellsOf f2.type = 1) (u0 : P.underlying f0.type = some .bool) (u2 : P.underlying f2.type = some (.int .u64))
    (dop : ∀ fuel cs x, DataW.trod enc P W base sp hd fuel f1.type cs = some x → ∃ q : OpV, cs = cellsO q ∧ q.Good)
    (h : DataW.trod enc P W base sp hd fuel e cs = some x) : ∃ q : ActV, cs = cellsA q ∧ q.Good := by
  obtain ⟨xs, n, _, _, hl, hxl, hf⟩ := DataW.trod_struct he h
  rw [ce] at hl
  match cs, hl, xs, hxl with
  | [v0, v1, v2, v3, v4, v5, v6, v7, v8], _, [y0, y1, y2], _ =>
    have k0 := hf 0 f0 rfl
    have k1 := hf 1 f1 rfl
    have k2 := hf 2 f2 rfl
    simp [o0, o1, o2, c0, c1, c2] at k0 k1 k2
    obtain ⟨a0, e0, _⟩ := DataW.trod_bool u0 k0
    obtain ⟨q, e1, g1⟩ := dop _ _ _ k1
    obtain ⟨a2, e2, _, w2⟩ := DataW.trod_int u2 k2
    simp at e0 e2
    subst e0 e2
    exact ⟨⟨a0, q, a2⟩, by unfold cellsA; rw [← e1]; rfl, g1, w2⟩
end
end Go.Law
