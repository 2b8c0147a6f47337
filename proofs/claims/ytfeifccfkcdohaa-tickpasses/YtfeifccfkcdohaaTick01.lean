/-
  What each call of layer 1 (tick), the reference's Add, and the statements' example come to.
-/
import Derived.Test.YtfeifccfkcdohaaRows
import Derived.Test.YtfeifccfkcdohaaPlain01
import Derived.WalkKit
import Derived.WalkSpells
import Derived.WalkLawsBesides
namespace Go.Proofs.Ytfeifccfkcdohaa
open Go.RowKit
namespace Tick
open Door

theorem wrap_add (a b : Int) (ha : U a) (hb : U b) : (IntKind.u64.wrap (a + b) < a → sat a b = top) ∧ (a ≤ IntKind.u64.wrap (a + b) → IntKind.u64.wrap (a + b) = sat a b) := by
  unfold U at *; unfold sat
  rw [IntKind.wrap_u64]
  unfold top at *
  constructor
  · intro h; rw [if_neg (by omega)]
  · intro h; rw [if_pos (by omega)]; omega
theorem wrap_left (a b : Int) (ha : U a) (hb : U b) : (IntKind.u64.wrap (18446744073709551615 - a) < b → sat a b = top) ∧ (b ≤ IntKind.u64.wrap (18446744073709551615 - a) → IntKind.u64.wrap (a + b) = sat a b) := by
  unfold U at *; unfold sat
  rw [IntKind.wrap_u64, IntKind.wrap_u64]
  unfold top at *
  constructor
  · intro h; rw [if_neg (by omega)]
  · intro h; rw [if_pos (by omega)]; omega
theorem ret_u64 {a b : Int} (h : a = b) : Ending.returned (.int .u64 a) = .returned (.int .u64 b) := by rw [h]

set_option maxHeartbeats 400000 in
theorem late (a b : Int) (w : World) :
    Calls Try.prog 15 #[.int .u64 a, .int .u64 b] w fun e w' => e = .returned (.bool (decide (b ≤ a))) ∧ w = w' := by
  go_enter Try.func15, Try.ntmps15
  go_wp2
  go_ret
  exact ⟨rfl, rfl⟩
set_option maxHeartbeats 400000 in
theorem add (a b : Int) (ha : U a) (hb : U b) (w : World) :
    Calls Try.prog 14 #[.int .u64 a, .int .u64 b] w fun e w' => e = .returned (.int .u64 (sat a b)) ∧ w = w' := by
  go_enter Try.func14, Try.ntmps14
  go_wp2
  all_goals go_ret
  · exact ⟨ret_u64 ((wrap_add a b ha hb).1 (by assumption)).symm, rfl⟩
  · exact ⟨ret_u64 ((wrap_add a b ha hb).2 (by assumption)), rfl⟩
set_option maxHeartbeats 400000 in
theorem refAdd (a b : Int) (ha : U a) (hb : U b) (w : World) :
    Calls Try.prog 13 #[.int .u64 a, .int .u64 b] w fun e w' => e = .returned (.int .u64 (sat a b)) ∧ w = w' := by
  go_enter Try.func13, Try.ntmps13
  go_wp2
  all_goals go_ret
  · exact ⟨ret_u64 ((wrap_left a b ha hb).1 (by assumption)).symm, rfl⟩
  · exact ⟨ret_u64 ((wrap_left a b ha hb).2 (by assumption)), rfl⟩
set_option maxHeartbeats 400000 in
theorem awake (w : World) :
    Calls Try.prog 9 #[] w fun e w' => e = .returned (.bool true) ∧ w = w' := by
  go_enter Try.func9, Try.ntmps9
  go_wp2
  go_ret
  exact ⟨rfl, rfl⟩

/-- a time, as a value -/
abbrev T (n s : Int) (c : Bool) : Value := .agg #[.int .u64 n, .int .u64 s, .bool c]
/-- a time's three cells -/
abbrev C (n s : Int) (c : Bool) : Obj := .cells #[.int .u64 n, .int .u64 s, .bool c] 24
set_option maxHeartbeats 400000 in
theorem pass (n s : Int) (c : Bool) (b : Int) (hn : U n) (hb : U b) (w : World) :
    Calls Try.prog 10 #[T n s c, .int .u64 b] w fun e w' => e = .returned (T (sat n b) s c) ∧ (w.alloc (C (sat n b) s c)).alloc (C (sat n b) s c) = w' := by
  go_enter Try.func10, Try.ntmps10
  go_wp2_with (go_at_call 14; refine (add _ _ hn hb _).mono ?_; rintro e w' ⟨rfl, rfl⟩)
  exact bodyPost_ret (v := T (sat n b) s c) (by simp [results, Try.results10, go_sem]) rfl ⟨rfl, rfl⟩
set_option maxHeartbeats 400000 in
theorem take (n s : Int) (c : Bool) (hs : U s) (w : World) :
    Calls Try.prog 11 #[T n s c] w fun e w' => e = .returned (.tuple #[T n (sat s 1) c, .int .u64 (sat s 1)]) ∧ ((w.alloc (C n (sat s 1) c)).alloc (C n (sat s 1) c)).drew = w' := by
  go_enter Try.func11, Try.ntmps11
  go_wp2_with (go_at_call 14; refine (add _ _ hs U1 _).mono ?_; rintro e w' ⟨rfl, rfl⟩)
  go_region
  go_wp2
  exact bodyPost_ret (v := .tuple #[T n (sat s 1) c, .int .u64 (sat s 1)]) (by simp [results, Try.results11, go_sem]) rfl ⟨rfl, rfl⟩
set_option maxHeartbeats 400000 in
theorem shut (n s : Int) (c : Bool) (w : World) :
    Calls Try.prog 12 #[T n s c] w fun e w' => e = .returned (T n s true) ∧ (w.alloc (C n s true)).alloc (C n s true) = w' := by
  go_enter Try.func12, Try.ntmps12
  go_wp2
  exact bodyPost_ret (v := T n s true) (by simp [results, Try.results12, go_sem]) rfl ⟨rfl, rfl⟩
end Tick
end Go.Proofs.Ytfeifccfkcdohaa
