/-
  Events and changes as plain data, and their cells. General over programs.
-/
import Derived.Test.YtdfonlbbohnfhaaDoorOpenRows
import Derived.Test.YtdfonlbbohnfhaaDoorRingz
namespace Go.Law
open Go.RowKit
/-- an event: its user, how it was, how it is, its number -/
structure Ev where
  us : ByteArray
  o1 : Int
  o2 : Int
  o3 : Int
  n1 : Int
  n2 : Int
  n3 : Int
  sq : Int
deriving DecidableEq
/-- a change -/
structure Cg where
  us : ByteArray
  o1 : Int
  o2 : Int
  o3 : Int
  n1 : Int
  n2 : Int
  n3 : Int
deriving DecidableEq
/-- a change, told with a number -/
abbrev Cg.ev (q : Cg) (s : Int) : Ev := ⟨q.us, q.o1, q.o2, q.o3, q.n1, q.n2, q.n3, s⟩
def cellsE (q : Ev) : List Value := [.string q.us, .int .i64 q.o1, .int .i64 q.o2, .int .i64 q.o3, .int .i64 q.n1, .int .i64 q.n2, .int .i64 q.n3, .int .u64 q.sq]
def flatE (l : List Ev) : List Value := l.flatMap cellsE
abbrev Ev.val (q : Ev) : Value := .agg #[.string q.us, .int .i64 q.o1, .int .i64 q.o2, .int .i64 q.o3, .int .i64 q.n1, .int .i64 q.n2, .int .i64 q.n3, .int .u64 q.sq]
abbrev Ev.box (q : Ev) : Array Value := #[.string q.us, .int .i64 q.o1, .int .i64 q.o2, .int .i64 q.o3, .int .i64 q.n1, .int .i64 q.n2, .int .i64 q.n3, .int .u64 q.sq]
def cellsG (q : Cg) : List Value := [.string q.us, .int .i64 q.o1, .int .i64 q.o2, .int .i64 q.o3, .int .i64 q.n1, .int .i64 q.n2, .int .i64 q.n3]
def flatG (l : List Cg) : List Value := l.flatMap cellsG
abbrev Cg.box (q : Cg) : Array Value := #[.string q.us, .int .i64 q.o1, .int .i64 q.o2, .int .i64 q.o3, .int .i64 q.n1, .int .i64 q.n2, .int .i64 q.n3]
theorem one_E (q : Ev) : ∀ u ∈ cellsE q, u.oneCell' = true := by
  intro u hu
  simp [cellsE] at hu
  rcases hu with rfl | rfl | rfl | rfl | rfl | rfl | rfl | rfl <;> rfl
theorem flatE_one (l : List Ev) : ∀ u ∈ flatE l, u.oneCell' = true := by
  intro u hu
  obtain ⟨q, _, hq⟩ := List.mem_flatMap.1 hu
  exact one_E q u hq
theorem flatE_length (l : List Ev) : (flatE l).length = l.length * 8 := rows_length (cells := cellsE) (fun _ => rfl) l
theorem flatE_app (xs ys : List Ev) : flatE (xs ++ ys) = flatE xs ++ flatE ys := List.flatMap_append
theorem flatE_snoc (zs : List Ev) (q : Ev) : flatE (zs ++ [q]) = flatE zs ++ cellsE q := by rw [flatE_app]; simp [flatE]
theorem flatE_take : ∀ (zs : List Ev) (i : Nat), flatE (zs.take i) = (flatE zs).take (i * 8)
  | [], i => by simp [flatE]
  | q :: r, 0 => by simp [flatE]
  | q :: r, i + 1 => by
    have ih := flatE_take r i
    have e : ∀ r : List Ev, flatE (q :: r) = cellsE q ++ flatE r := fun r => by simp [flatE]
    rw [List.take_succ_cons, e, e, ih, show (i + 1) * 8 = 8 + i * 8 by omega, List.take_append, List.take_of_length_le (l := cellsE q) (by show 8 ≤ _; omega), show 8 + i * 8 - (cellsE q).length = i * 8 from Nat.add_sub_cancel_left ..]
theorem flatE_drop : ∀ (zs : List Ev) (i : Nat), flatE (zs.drop i) = (flatE zs).drop (i * 8)
  | [], i => by simp [flatE]
  | q :: r, 0 => by simp [flatE]
  | q :: r, i + 1 => by
    have ih := flatE_drop r i
    have e : ∀ r : List Ev, flatE (q :: r) = cellsE q ++ flatE r := fun r => by simp [flatE]
    rw [List.drop_succ_cons, e, ih, show (i + 1) * 8 = 8 + i * 8 by omega, List.drop_append, List.drop_of_length_le (l := cellsE q) (by show 8 ≤ _; omega), show 8 + i * 8 - (cellsE q).length = i * 8 from Nat.add_sub_cancel_left ..]
    rfl
/-- an event's cells -/
structure EvAt (w : World) (b o : Nat) (q : Ev) : Prop where
  c0 : w.cell? ⟨b, o, none⟩ = some (.string q.us)
  c1 : w.cell? ⟨b, o + 1, none⟩ = some (.int .i64 q.o1)
  c2 : w.cell? ⟨b, o + 2, none⟩ = some (.int .i64 q.o2)
  c3 : w.cell? ⟨b, o + 3, none⟩ = some (.int .i64 q.o3)
  c4 : w.cell? ⟨b, o + 4, none⟩ = some (.int .i64 q.n1)
  c5 : w.cell? ⟨b, o + 5, none⟩ = some (.int .i64 q.n2)
  c6 : w.cell? ⟨b, o + 6, none⟩ = some (.int .i64 q.n3)
  c7 : w.cell? ⟨b, o + 7, none⟩ = some (.int .u64 q.sq)
theorem Seq.ev {w : World} {lo B : Nat} {A : Option Addr} {l : List Ev} {i : Nat} (h : Seq w lo B A (flatE l)) (hi : i < l.length) : ∃ b off, A = some ⟨b, off, none⟩ ∧ lo ≤ b ∧ b < B ∧ EvAt w b (off + i * 8) l[i] := by
  obtain ⟨b, off, hA, h1, h2, hc⟩ := Seq.row (cells := cellsE) (fun _ => rfl) (by decide : 0 < 8) h hi
  exact ⟨b, off, hA, h1, h2, by simpa using hc 0 _ rfl, hc 1 _ rfl, hc 2 _ rfl, hc 3 _ rfl, hc 4 _ rfl, hc 5 _ rfl, hc 6 _ rfl, hc 7 _ rfl⟩
theorem EvAt.below {w w' : World} {b o B : Nat} {q : Ev} (h : EvAt w b o q) (hb : Below B w w') (hB : b < B) : EvAt w' b o q :=
  ⟨(hb.cell (p := ⟨b, _, none⟩) hB).trans h.c0, (hb.cell (p := ⟨b, _, none⟩) hB).trans h.c1, (hb.cell (p := ⟨b, _, none⟩) hB).trans h.c2, (hb.cell (p := ⟨b, _, none⟩) hB).trans h.c3, (hb.cell (p := ⟨b, _, none⟩) hB).trans h.c4, (hb.cell (p := ⟨b, _, none⟩) hB).trans h.c5, (hb.cell (p := ⟨b, _, none⟩) hB).trans h.c6, (hb.cell (p := ⟨b, _, none⟩) hB).trans h.c7⟩
theorem new_E (w : World) (q : Ev) (t : TypeId) {g : Nat} (hg : g = w.heap.size) : ∀ (j : Nat) (u : Value), (cellsE q)[j]? = some u → (w.alloc (.cells q.box t)).cell? ((⟨g, 0, none⟩ : Addr).add j) = some u := by
  subst hg
  intro j u hj
  match j, hj with
  | 0, hj => simp [cellsE] at hj; subst hj; simp [Addr.add]
  | 1, hj => simp [cellsE] at hj; subst hj; simp [Addr.add]
  | 2, hj => simp [cellsE] at hj; subst hj; simp [Addr.add]
  | 3, hj => simp [cellsE] at hj; subst hj; simp [Addr.add]
  | 4, hj => simp [cellsE] at hj; subst hj; simp [Addr.add]
  | 5, hj => simp [cellsE] at hj; subst hj; simp [Addr.add]
  | 6, hj => simp [cellsE] at hj; subst hj; simp [Addr.add]
  | 7, hj => simp [cellsE] at hj; subst hj; simp [Addr.add]
  | j + 8, hj => simp [cellsE] at hj
/-- a change's cells -/
structure CgAt (w : World) (b o : Nat) (q : Cg) : Prop where
  c0 : w.cell? ⟨b, o, none⟩ = some (.string q.us)
  c1 : w.cell? ⟨b, o + 1, none⟩ = some (.int .i64 q.o1)
  c2 : w.cell? ⟨b, o + 2, none⟩ = some (.int .i64 q.o2)
  c3 : w.cell? ⟨b, o + 3, none⟩ = some (.int .i64 q.o3)
  c4 : w.cell? ⟨b, o + 4, none⟩ = some (.int .i64 q.n1)
  c5 : w.cell? ⟨b, o + 5, none⟩ = some (.int .i64 q.n2)
  c6 : w.cell? ⟨b, o + 6, none⟩ = some (.int .i64 q.n3)
theorem Seq.cg {w : World} {lo B : Nat} {A : Option Addr} {l : List Cg} {i : Nat} (h : Seq w lo B A (flatG l)) (hi : i < l.length) : ∃ b off, A = some ⟨b, off, none⟩ ∧ lo ≤ b ∧ b < B ∧ CgAt w b (off + i * 7) l[i] := by
  obtain ⟨b, off, hA, h1, h2, hc⟩ := Seq.row (cells := cellsG) (fun _ => rfl) (by decide : 0 < 7) h hi
  exact ⟨b, off, hA, h1, h2, by simpa using hc 0 _ rfl, hc 1 _ rfl, hc 2 _ rfl, hc 3 _ rfl, hc 4 _ rfl, hc 5 _ rfl, hc 6 _ rfl⟩
end Go.Law
