/-
  A table of layer 10 as plain data: what each call makes of it, and what it answers.
-/
import Derived.Test.YtdkjcheannehhaaGreatMod03
import Derived.Test.YtdkjcheannehhaaGreatMrgL
import Derived.Test.YtdkjcheannehhaaGreatBook03
namespace Go.Proofs.YtdkjcheannehhaaGreat
open Go.RowKit
namespace Mod
open Go.Law Feed Bk
def Mo.take (a : Mo) : Mo := { a with seq := Door.sat a.seq 1 }
def Mo.become (a : Mo) (k : Nat) (nb : List (ByteArray × En)) (cs : List Ch) (seq : Int) : Mo := { a with bk := upd a.bk k nb, fd := upd a.fd k ((a.fd k).tell a.room (cs.map cgOf) seq) }
def Mo.sweep (a : Mo) (s : Int) : Mo := if 0 ≤ s ∧ s < (a.n : Int) then a.take.become s.toNat (sweepB a.now (a.bk s.toNat)) (sweepC a.now (a.bk s.toNat)) (Door.sat a.seq 1) else a
def Mo.tick (a : Mo) (b : Int) : Mo := { a with now := Door.sat a.now b }
def Mo.pres (a : Mo) (u : ByteArray) : Pr := presS a.now (sesK u (a.bk (str u a.n)))
def Mo.stored (a : Mo) : Nat := ((List.range a.n).map fun k => storedB (a.bk k)).sum
structure Rep where
  err : Int
  vals : List Pr
  evs : List Ev
  lost : Bool
def Rep.of (e : Int) : Rep := ⟨e, [], [], false⟩
def Mo.write (a : Mo) (x : OpV) : Mo × Int :=
  if a.closed then (a.take, 5) else
  (a.take.become (str x.user a.n) (wrB x a.now a.most (a.bk (str x.user a.n))) (wrC x a.now a.most (a.bk (str x.user a.n))) (Door.sat a.seq 1), wrE x a.now a.most (a.bk (str x.user a.n)))
def Mo.watched (a : Mo) (who : Nat) : Nat := ((List.range a.n).map fun k => ((a.fd k).wat who).length).sum
def Mo.feed1 (a : Mo) (k : Nat) (s : St) : Mo := { a with fd := upd a.fd k s }
def Mo.watch (a : Mo) (who : Nat) (u : ByteArray) : Mo × Int :=
  if (a.fd (str u a.n)).has who u = false ∧ a.lim ≤ (a.watched who : Int) then (a, 4) else
  (a.feed1 (str u a.n) { a.fd (str u a.n) with wat := upd (a.fd (str u a.n)).wat who (putK OmapU.lt u 0 ((a.fd (str u a.n)).wat who)) }, 0)
def Mo.unwatch (a : Mo) (who : Nat) (u : ByteArray) : Mo :=
  a.feed1 (str u a.n) { a.fd (str u a.n) with wat := upd (a.fd (str u a.n)).wat who (outK u ((a.fd (str u a.n)).wat who)) }
def drained (who : Nat) (s : St) : St := { s with que := upd s.que who [], los := upd s.los who false }
def Mo.upto (a : Mo) (who j : Nat) : Mo := { a with fd := fun k => if k < j then drained who (a.fd k) else a.fd k }
def Mo.told (a : Mo) (who j : Nat) : List (List Ev) := (List.range j).map fun k => (a.fd k).que who
def Mo.lost (a : Mo) (who j : Nat) : Bool := (List.range j).any fun k => (a.fd k).los who
def Mo.poll (a : Mo) (who : Nat) : Mo × Rep := (a.upto who a.n, ⟨0, [], all (a.told who a.n), a.lost who a.n⟩)
def Mo.ask (a : Mo) (who : Nat) (x : OpW) : Mo × Rep :=
  if x.kind = 1 ∨ x.kind = 2 ∨ x.kind = 3 then ((a.write x.v).1, Rep.of (a.write x.v).2)
  else if x.kind = 8 then a.poll who
  else if a.closed then (a, Rep.of 5)
  else if x.kind = 4 then (a, ⟨0, [a.pres x.user], [], false⟩)
  else if x.kind = 5 then (a, ⟨0, x.us.map a.pres, [], false⟩)
  else if x.kind = 6 then ((a.watch who x.user).1, Rep.of (a.watch who x.user).2)
  else if x.kind = 7 then (a.unwatch who x.user, Rep.of 0)
  else ({ a with closed := true }, Rep.of 0)
def Mo.do_ (a : Mo) (who : Int) (x : OpW) : Mo × Rep := if goodB x = true ∧ (0 ≤ who ∧ who < 8) then a.ask who.toNat x else (a, Rep.of 1)
end Mod
end Go.Proofs.YtdkjcheannehhaaGreat
