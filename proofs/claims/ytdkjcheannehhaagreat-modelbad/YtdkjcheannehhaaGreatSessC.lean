/-
  Sessions in memory: an own row of them, a call that makes one; Late (layer 1).
-/
import Derived.Test.YtdkjcheannehhaaGreatBase
import Derived.Test.YtdkjcheannehhaaGreatSessL
import Derived.BigRegion
import Derived.Lib.Hide
import Derived.Shelf.Abstract
namespace Go.Law
open Go.RowKit
theorem Is.row {w : World} {g base : Nat} {e : TypeId} {zs : List Sn} (h : Is w g e (flatS zs).toArray) (hb : base ≤ g) (hl : zs.length ≤ maxLen) : w.ownsRow base e 4 (.slice (some ⟨g, 0, none⟩) zs.length zs.length) zs.length (flatS zs) :=
  ⟨flatS_length zs, .inr ⟨g, zs.length, _, rfl, hb, h, Nat.le_refl _, hl, by simp [flatS_length], by rw [List.take_of_length_le (by simp [flatS_length])]⟩⟩
theorem Is.seqS {w : World} {g : Nat} {e : TypeId} {cs : List Value} (h : Is w g e cs.toArray) : Seq w g (g + 1) (some ⟨g, 0, none⟩) cs := fun _ =>
  ⟨g, 0, rfl, Nat.le_refl _, Nat.lt_succ_self _, fun i u hu => by rw [Nat.zero_add, h.cell]; simpa using hu⟩
theorem row_of {w : World} {g base G : Nat} {e : TypeId} {cur : List Value} {zs : List Sn} (h : Is w g e cur.toArray) (hb : base ≤ g) (hle : zs.length ≤ G) (hG : G ≤ maxLen) (hs : cur.length = G * 4) (ht : cur.take (zs.length * 4) = flatS zs) :
    w.ownsRow base e 4 (.slice (some ⟨g, 0, none⟩) zs.length G) zs.length (flatS zs) :=
  ⟨flatS_length zs, .inr ⟨g, G, _, rfl, hb, h, hle, hG, by simpa using hs, ht⟩⟩
theorem own_base {w : World} {base base' : Nat} {e : TypeId} {size n : Nat} {v : Value} {xs : List Value} (h : w.ownsRow base' e size v n xs) (hb : base ≤ base') : w.ownsRow base e size v n xs := by
  refine ⟨h.1, ?_⟩
  rcases h.2 with hn | ⟨g, cap, cur, rfl, hg, rest⟩
  · exact .inl hn
  · exact .inr ⟨g, cap, cur, rfl, by omega, rest⟩
theorem live_snoc (now : Int) (xs : List Sn) (q : Sn) : live now (xs ++ [q]) = if now < q.2.2.2 then live now xs ++ [q] else live now xs := by
  unfold live
  rw [List.filter_append]
  by_cases h : now < q.2.2.2
  · rw [if_pos h, List.filter_cons_of_pos (by simpa using h)]; rfl
  · rw [if_neg h, List.filter_cons_of_neg (by simpa using h)]; simp
theorem own_empty (w : World) {base : Nat} (e : TypeId) (hb : base ≤ w.heap.size) : (w.alloc (.cells #[] e)).ownsRow base e 4 (.slice (some ⟨w.heap.size, 0, none⟩) 0 0) 0 [] :=
  ⟨rfl, .inr ⟨w.heap.size, 0, #[], rfl, hb, heap_alloc_new w _, Nat.le_refl _, Nat.zero_le _, rfl, rfl⟩⟩
end Go.Law
namespace Go.Proofs.YtdkjcheannehhaaGreat
open Go.RowKit
namespace Sess
open Go.Law
theorem elem : ∃ i, Law.Elem Tryz.prog 110 143 i (.agg #[.int .i64 0, .int .i64 0, .int .i64 0, .int .u64 0]) 4 32 := Law.Elem.of Tryz.underlying110 (by kernel_rfl) rfl (by decide)
/-- the slice v is an own row, from base on, of these sessions -/
abbrev Row (w : World) (base : Nat) (v : Value) (zs : List Sn) : Prop := w.ownsRow base 143 4 v zs.length (flatS zs)

/-- behind a call that makes a row of these sessions -/
def Listed (w : World) (base : Nat) (zs : List Sn) (e : Ending) (w' : World) : Prop := ∃ A c, e = .returned (.slice A zs.length c) ∧ Row w' base (.slice A zs.length c) zs ∧ Below base w w'

/-- behind a call that makes a row of these sessions, and an error's number -/
def Listed2 (w : World) (zs : List Sn) (err : Int) (e : Ending) (w' : World) : Prop := ∃ A c, e = .returned (.tuple #[.slice A zs.length c, .int .i64 err]) ∧ Row w' w.heap.size (.slice A zs.length c) zs ∧ Below w.heap.size w w'

set_option maxHeartbeats 400000 in
theorem late (a b : Int) (w : World) :
    Calls Tryz.prog 108 #[.int .u64 a, .int .u64 b] w fun e w' => e = .returned (.bool (decide (b ≤ a))) ∧ w = w' := by
  go_enter Tryz.func108, Tryz.ntmps108
  go_wp2
  go_ret
  exact ⟨rfl, rfl⟩
end Sess
end Go.Proofs.YtdkjcheannehhaaGreat
