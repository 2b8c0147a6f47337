/-
  What each call of layer 1 (tick), the reference's Add, and the statements' example come to.
-/
import Derived.Test.YtjjemdmbhgmiiaaRows
import Derived.Test.YtjjemdmbhgmiiaaPlain01
import Derived.WalkKit
import Derived.WalkSpells
import Derived.WalkLawsBesides
namespace Go.Proofs.Ytjjemdmbhgmiiaa
open Go.RowKit
namespace Tick
open Door

theorem wrap_add (a b : Int) (ha : U a) (hb : U b) : (IntKind.u64.wrap (a + b) < a → sat a b = top) ∧ (a ≤ IntKind.u64.wrap (a + b) → IntKind.u64.wrap (a + b) = sat a b) := by
  unfold U at *; unfold sat
  rw [IntKind.wrap_u64]
  unfold top at *
  constructor
  · intro h; rw [if_neg (by omega)]
  · intro h; rw [if_pos (by omega)]; omega
theorem wrap_left (a b : Int) (ha : U a) (hb : U b) : (IntKind.u64.wrap (18446744073709551615 - a) < b → sat a b = top) ∧ (b ≤ IntKind.u64.wrap (18446744073709551615 - a) → IntKind.u64.wrap (a + b) = sat a b) := by
  unfold U at *; unfold sat
  rw [IntKind.wrap_u64, IntKind.wrap_u64]
  unfold top at *
  constructor
  · intro h; rw [if_neg (by omega)]
  · intro h; rw [if_pos (by omega)]; omega
theorem ret_u64 {a b : Int} (h : a = b) : Ending.returned (.int .u64 a) = .returned (.int .u64 b) := by rw [h]

set_option maxHeartbeats 400000 in
theorem late (a b : Int) (w : World) :
    Calls Try.prog 49 #[.int .u64 a, .int .u64 b] w fun e w' => e = .returned (.bool (decide (b ≤ a))) ∧ w = w' := by
  go_enter Try.func49, Try.ntmps49
  go_wp2
  go_ret
  exact ⟨rfl, rfl⟩
set_option maxHeartbeats 400000 in
theorem add (a b : Int) (ha : U a) (hb : U b) (w : World) :
    Calls Try.prog 50 #[.int .u64 a, .int .u64 b] w fun e w' => e = .returned (.int .u64 (sat a b)) ∧ w = w' := by
  go_enter Try.func50, Try.ntmps50
  go_wp2
  all_goals go_ret
  · exact ⟨ret_u64 ((wrap_add a b ha hb).1 (by assumption)).symm, rfl⟩
  · exact ⟨ret_u64 ((wrap_add a b ha hb).2 (by assumption)), rfl⟩
set_option maxHeartbeats 400000 in
theorem refAdd (a b : Int) (ha : U a) (hb : U b) (w : World) :
    Calls Try.prog 33 #[.int .u64 a, .int .u64 b] w fun e w' => e = .returned (.int .u64 (sat a b)) ∧ w = w' := by
  go_enter Try.func33, Try.ntmps33
  go_wp2
  all_goals go_ret
  · exact ⟨ret_u64 ((wrap_left a b ha hb).1 (by assumption)).symm, rfl⟩
  · exact ⟨ret_u64 ((wrap_left a b ha hb).2 (by assumption)), rfl⟩
end Tick
end Go.Proofs.Ytjjemdmbhgmiiaa
