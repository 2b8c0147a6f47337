/-
  What each call of layer 13 (latch), the reference's calls, and the statements' example come to. A lock is a number: one more than who has it, or 0.
-/
import Derived.Test.YtnbnhkijmlbefaaBase
import Derived.WalkSpells
import Derived.WalkLawsBesides
import Derived.Lib.Hide
import Derived.OwnWalk
namespace Go.Proofs.Ytnbnhkijmlbefaa
open Go.RowKit
namespace Lt
/-- fits an int -/
def I64 (a : Int) : Prop := -9223372036854775808 ≤ a ∧ a ≤ 9223372036854775807
/-- a lock that may be -/
def Ok (x : Int) : Prop := 0 ≤ x ∧ x ≤ 9223372036854775807
/-- may be a process' -/
def pr (a : Int) : Bool := decide (0 ≤ a) && decide (a < 9223372036854775807)
/-- what Take and Give make of it, and whether they do -/
def tk (x a : Int) : Int × Bool := if (x == 0 && pr a) = true then (a + 1, true) else (x, false)
def gv (x a : Int) : Int × Bool := if (x != 0 && x - 1 == a) = true then (0, true) else (x, false)
theorem tk_ok {x a : Int} (h : Ok x) : Ok (tk x a).1 := by
  unfold tk; split
  · rename_i h1; simp [pr] at h1; unfold Ok; simp only; omega
  · exact h
theorem gv_ok {x a : Int} (h : Ok x) : Ok (gv x a).1 := by
  unfold gv; split
  · unfold Ok; simp only; omega
  · exact h
/-- a lock, as a value -/
abbrev K (x : Int) : Value := .agg #[.int .i64 x]
/-- its block -/
abbrev C (x : Int) : Obj := .cells #[.int .i64 x] 25
theorem one (w : World) (o : Obj) : Below w.heap.size w (w.alloc o) := (Below.refl _ _).alloc (Nat.le_refl _) _
theorem ret_int {a b : Int} (h : a = b) : Ending.returned (.int .i64 a) = .returned (.int .i64 b) := by rw [h]
theorem ret_bool {a b : Bool} (h : a = b) : Ending.returned (.bool a) = .returned (.bool b) := by rw [h]
theorem wsub {x : Int} (h : Ok x) : IntKind.i64.wrap (x - 1) = x - 1 := by unfold Ok at h; rw [IntKind.wrap_i64]; omega
theorem wadd {x : Int} (h : pr x = true) : IntKind.i64.wrap (x + 1) = x + 1 := by simp [pr] at h; rw [IntKind.wrap_i64]; omega
set_option maxHeartbeats 400000 in
theorem free (x : Int) (w : World) : Calls Try.prog 14 #[K x] w fun e w' => e = .returned (.bool (x == 0)) ∧ w.alloc (C x) = w' := by
  go_enter Try.func14, Try.ntmps14
  go_wp2
  go_ret
  exact ⟨rfl, rfl⟩
set_option maxHeartbeats 400000 in
theorem owner (x : Int) (h : Ok x) (w : World) : Calls Try.prog 13 #[K x] w fun e w' => e = .returned (.int .i64 (x - 1)) ∧ w.alloc (C x) = w' := by
  have hw := wsub h
  clear h
  go_enter Try.func13, Try.ntmps13
  go_wp2
  go_ret
  exact ⟨rfl, rfl⟩
set_option maxHeartbeats 400000 in
theorem process (a : Int) (w : World) : Calls Try.prog 16 #[.int .i64 a] w fun e w' => e = .returned (.bool (pr a)) ∧ w = w' := by
  cases d0 : decide (0 ≤ a) with
  | false =>
    have hp : pr a = false := by unfold pr; rw [d0]; rfl
    go_enter Try.func16, Try.ntmps16
    go_wp2_with fail
    go_ret
    exact ⟨ret_bool hp.symm, rfl⟩
  | true =>
    have hp : pr a = decide (a < 9223372036854775807) := by unfold pr; rw [d0]; rfl
    go_enter Try.func16, Try.ntmps16
    go_wp2_with fail
    go_ret
    exact ⟨ret_bool hp.symm, rfl⟩
set_option maxHeartbeats 800000 in
theorem take (x a : Int) (w : World) : Calls Try.prog 11 #[K x, .int .i64 a] w fun e w' => e = .returned (.tuple #[K (tk x a).1, .bool (tk x a).2]) ∧ Below w.heap.size w w' := by
  by_cases h : (x == 0 && pr a) = true
  · have ht : tk x a = (a + 1, true) := if_pos h
    rw [ht]
    obtain ⟨d0, d1⟩ := (Bool.and_eq_true _ _ ▸ h)
    have d2 := wadd d1
    clear h ht
    go_enter Try.func11, Try.ntmps11
    go_wp2_with (first
      | (go_at_call 14; refine (free _ _).mono ?_; rintro e w' ⟨rfl, rfl⟩)
      | (go_at_call 16; refine (process _ _).mono ?_; rintro e w' ⟨rfl, rfl⟩))
    exact bodyPost_ret (v := .tuple #[K (a + 1), .bool true]) (by simp [results, Try.results11, go_sem]) rfl ⟨rfl, by repeat (first | exact Below.refl _ _ | refine Below.alloc ?_ (by first | exact Nat.le_refl _ | (simp only [World.size_alloc]; omega)) _)⟩
  · have ht : tk x a = (x, false) := if_neg h
    rw [ht]
    cases d0 : (x == 0) with
    | false =>
      clear h ht
      go_enter Try.func11, Try.ntmps11
      go_wp2_with (first
        | (go_at_call 14; refine (free _ _).mono ?_; rintro e w' ⟨rfl, rfl⟩)
        | (go_at_call 16; refine (process _ _).mono ?_; rintro e w' ⟨rfl, rfl⟩))
      exact bodyPost_ret (v := .tuple #[K x, .bool false]) (by simp [results, Try.results11, go_sem]) rfl ⟨rfl, by repeat (first | exact Below.refl _ _ | refine Below.alloc ?_ (by first | exact Nat.le_refl _ | (simp only [World.size_alloc]; omega)) _)⟩
    | true =>
      have d1 : pr a = false := by rw [d0] at h; simpa using h
      clear h ht
      go_enter Try.func11, Try.ntmps11
      go_wp2_with (first
        | (go_at_call 14; refine (free _ _).mono ?_; rintro e w' ⟨rfl, rfl⟩)
        | (go_at_call 16; refine (process _ _).mono ?_; rintro e w' ⟨rfl, rfl⟩))
      exact bodyPost_ret (v := .tuple #[K x, .bool false]) (by simp [results, Try.results11, go_sem]) rfl ⟨rfl, by repeat (first | exact Below.refl _ _ | refine Below.alloc ?_ (by first | exact Nat.le_refl _ | (simp only [World.size_alloc]; omega)) _)⟩
set_option maxHeartbeats 800000 in
theorem give (x a : Int) (hx : Ok x) (w : World) : Calls Try.prog 9 #[K x, .int .i64 a] w fun e w' => e = .returned (.tuple #[K (gv x a).1, .bool (gv x a).2]) ∧ Below w.heap.size w w' := by
  by_cases h : (x != 0 && x - 1 == a) = true
  · have ht : gv x a = (0, true) := if_pos h
    rw [ht]
    have d0 : (x == 0) = false := by simp at h; simpa using h.1
    have d1 : (x - 1 != a) = false := by simp at h; simpa using h.2
    clear h ht
    go_enter Try.func9, Try.ntmps9
    go_wp2_with (first
      | (go_at_call 14; refine (free _ _).mono ?_; rintro e w' ⟨rfl, rfl⟩)
      | (go_at_call 13; refine (owner _ hx _).mono ?_; rintro e w' ⟨rfl, rfl⟩))
    exact bodyPost_ret (v := .tuple #[K 0, .bool true]) (by simp [results, Try.results9, go_sem]) rfl ⟨rfl, by repeat (first | exact Below.refl _ _ | refine Below.alloc ?_ (by first | exact Nat.le_refl _ | (simp only [World.size_alloc]; omega)) _)⟩
  · have ht : gv x a = (x, false) := if_neg h
    rw [ht]
    cases d0 : (x == 0) with
    | true =>
      clear h ht
      go_enter Try.func9, Try.ntmps9
      go_wp2_with (first
        | (go_at_call 14; refine (free _ _).mono ?_; rintro e w' ⟨rfl, rfl⟩)
        | (go_at_call 13; refine (owner _ hx _).mono ?_; rintro e w' ⟨rfl, rfl⟩))
      exact bodyPost_ret (v := .tuple #[K x, .bool false]) (by simp [results, Try.results9, go_sem]) rfl ⟨rfl, by repeat (first | exact Below.refl _ _ | refine Below.alloc ?_ (by first | exact Nat.le_refl _ | (simp only [World.size_alloc]; omega)) _)⟩
    | false =>
      have d1 : (x - 1 != a) = true := by have e : (x != 0) = true := by simpa using d0
                                          rw [e] at h; simpa using h
      clear h ht
      go_enter Try.func9, Try.ntmps9
      go_wp2_with (first
        | (go_at_call 14; refine (free _ _).mono ?_; rintro e w' ⟨rfl, rfl⟩)
        | (go_at_call 13; refine (owner _ hx _).mono ?_; rintro e w' ⟨rfl, rfl⟩))
      exact bodyPost_ret (v := .tuple #[K x, .bool false]) (by simp [results, Try.results9, go_sem]) rfl ⟨rfl, by repeat (first | exact Below.refl _ _ | refine Below.alloc ?_ (by first | exact Nat.le_refl _ | (simp only [World.size_alloc]; omega)) _)⟩
end Lt
end Go.Proofs.Ytnbnhkijmlbefaa
