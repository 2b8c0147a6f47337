/-
  An op in memory (layers 11, ..): general over programs.
-/
import Derived.Test.YtdfonlbbohnfhaaDoorSlices
namespace Go.Law
open Go.RowKit Go.ChangeShapes Go.WideShapes Go.ChangeAt
/-- an op that was opened: its users lie at an address -/
structure OpW where
  kind : Int
  user : ByteArray
  id : Int
  st : Int
  pr : Int
  ttl : Int
  A : Option Addr
  c : Nat
  us : List ByteArray
abbrev OpW.box (q : OpW) : Array Value := #[.int .i64 q.kind, .string q.user, .int .i64 q.id, .int .i64 q.st, .int .i64 q.pr, .int .u64 q.ttl, .slice q.A q.us.length q.c]
structure OpW.In (q : OpW) (w : World) : Prop where
  us : Seq w 0 w.heap.size q.A (q.us.map .string)
  len : q.us.length ≤ maxLen
  cap : q.us.length ≤ q.c
  size : ∀ u ∈ q.us, u.size ≤ maxLen
  user : q.user.size ≤ maxLen
  kind : -9223372036854775808 ≤ q.kind ∧ q.kind ≤ 9223372036854775807
  id : -9223372036854775808 ≤ q.id ∧ q.id ≤ 9223372036854775807
  st : -9223372036854775808 ≤ q.st ∧ q.st ≤ 9223372036854775807
  pr : -9223372036854775808 ≤ q.pr ∧ q.pr ≤ 9223372036854775807
  ttl : 0 ≤ q.ttl ∧ q.ttl ≤ 18446744073709551615
theorem OpW.In.below {q : OpW} {w w' : World} (h : q.In w) (hb : Below w.heap.size w w') : q.In w' := ⟨(h.us.below hb).more hb.size, h.len, h.cap, h.size, h.user, h.kind, h.id, h.st, h.pr, h.ttl⟩
/-- has an op few and short names? -/
def shortB (q : OpW) : Bool := decide (q.user.size ≤ 40) && (decide (q.us.length ≤ 20) && q.us.all fun u => decide (u.size ≤ 40))
end Go.Law
