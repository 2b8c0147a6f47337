/-
  What each call of layer 1 (tick), the reference's Add, and the statements' example come to.
-/
import Derived.Test.YtdkjcheannehhaaGreatRows
import Derived.Test.YtdkjcheannehhaaGreatPlain01
import Derived.WalkKit
import Derived.WalkSpells
import Derived.WalkLawsBesides
namespace Go.Proofs.YtdkjcheannehhaaGreat
open Go.RowKit
namespace Tick
open Door

theorem wrap_add (a b : Int) (ha : U a) (hb : U b) : (IntKind.u64.wrap (a + b) < a → sat a b = top) ∧ (a ≤ IntKind.u64.wrap (a + b) → IntKind.u64.wrap (a + b) = sat a b) := by
  unfold U at *; unfold sat
  rw [IntKind.wrap_u64]
  unfold top at *
  constructor
  · intro h; rw [if_neg (by omega)]
  · intro h; rw [if_pos (by omega)]; omega
theorem wrap_left (a b : Int) (ha : U a) (hb : U b) : (IntKind.u64.wrap (18446744073709551615 - a) < b → sat a b = top) ∧ (b ≤ IntKind.u64.wrap (18446744073709551615 - a) → IntKind.u64.wrap (a + b) = sat a b) := by
  unfold U at *; unfold sat
  rw [IntKind.wrap_u64, IntKind.wrap_u64]
  unfold top at *
  constructor
  · intro h; rw [if_neg (by omega)]
  · intro h; rw [if_pos (by omega)]; omega
theorem ret_u64 {a b : Int} (h : a = b) : Ending.returned (.int .u64 a) = .returned (.int .u64 b) := by rw [h]

set_option maxHeartbeats 400000 in
theorem late (a b : Int) (w : World) :
    Calls Tryz.prog 108 #[.int .u64 a, .int .u64 b] w fun e w' => e = .returned (.bool (decide (b ≤ a))) ∧ w = w' := by
  go_enter Tryz.func108, Tryz.ntmps108
  go_wp2
  go_ret
  exact ⟨rfl, rfl⟩
set_option maxHeartbeats 400000 in
theorem add (a b : Int) (ha : U a) (hb : U b) (w : World) :
    Calls Tryz.prog 97 #[.int .u64 a, .int .u64 b] w fun e w' => e = .returned (.int .u64 (sat a b)) ∧ w = w' := by
  go_enter Tryz.func97, Tryz.ntmps97
  go_wp2
  all_goals go_ret
  · exact ⟨ret_u64 ((wrap_add a b ha hb).1 (by assumption)).symm, rfl⟩
  · exact ⟨ret_u64 ((wrap_add a b ha hb).2 (by assumption)), rfl⟩
set_option maxHeartbeats 400000 in
theorem refAdd (a b : Int) (ha : U a) (hb : U b) (w : World) :
    Calls Tryz.prog 37 #[.int .u64 a, .int .u64 b] w fun e w' => e = .returned (.int .u64 (sat a b)) ∧ w = w' := by
  go_enter Tryz.func37, Tryz.ntmps37
  go_wp2
  all_goals go_ret
  · exact ⟨ret_u64 ((wrap_left a b ha hb).1 (by assumption)).symm, rfl⟩
  · exact ⟨ret_u64 ((wrap_left a b ha hb).2 (by assumption)), rfl⟩
/-- a time, as a value -/
abbrev T (n s : Int) (c : Bool) : Value := .agg #[.int .u64 n, .int .u64 s, .bool c]
/-- a time's three cells -/
abbrev C (n s : Int) (c : Bool) : Obj := .cells #[.int .u64 n, .int .u64 s, .bool c] 50
set_option maxHeartbeats 400000 in
theorem pass (n s : Int) (c : Bool) (b : Int) (hn : U n) (hb : U b) (w : World) :
    Calls Tryz.prog 67 #[T n s c, .int .u64 b] w fun e w' => e = .returned (T (sat n b) s c) ∧ (w.alloc (C (sat n b) s c)).alloc (C (sat n b) s c) = w' := by
  go_enter Tryz.func67, Tryz.ntmps67
  go_wp2_with (go_at_call 97; refine (add _ _ hn hb _).mono ?_; rintro e w' ⟨rfl, rfl⟩)
  exact bodyPost_ret (v := T (sat n b) s c) (by simp [results, Tryz.results67, go_sem]) rfl ⟨rfl, rfl⟩
set_option maxHeartbeats 400000 in
theorem take (n s : Int) (c : Bool) (hs : U s) (w : World) :
    Calls Tryz.prog 85 #[T n s c] w fun e w' => e = .returned (.tuple #[T n (sat s 1) c, .int .u64 (sat s 1)]) ∧ ((w.alloc (C n (sat s 1) c)).alloc (C n (sat s 1) c)).drew = w' := by
  go_enter Tryz.func85, Tryz.ntmps85
  go_wp2_with (go_at_call 97; refine (add _ _ hs U1 _).mono ?_; rintro e w' ⟨rfl, rfl⟩)
  go_region
  go_wp2
  exact bodyPost_ret (v := .tuple #[T n (sat s 1) c, .int .u64 (sat s 1)]) (by simp [results, Tryz.results85, go_sem]) rfl ⟨rfl, rfl⟩
set_option maxHeartbeats 400000 in
theorem shut (n s : Int) (c : Bool) (w : World) :
    Calls Tryz.prog 65 #[T n s c] w fun e w' => e = .returned (T n s true) ∧ (w.alloc (C n s true)).alloc (C n s true) = w' := by
  go_enter Tryz.func65, Tryz.ntmps65
  go_wp2
  exact bodyPost_ret (v := T n s true) (by simp [results, Tryz.results65, go_sem]) rfl ⟨rfl, rfl⟩
end Tick
end Go.Proofs.YtdkjcheannehhaaGreat
