/-
  Are two ops the same, in what counts? (The law's own function.)
-/
import Derived.Test.YtdfonlbbohnfhaaDoorOpSam
import Derived.RegionTactic
import Derived.Lib.QuietBelow
namespace Go.Proofs.YtdfonlbbohnfhaaDoor
open Go.RowKit Go.Shelf
attribute [local go_sem] Oper.semAt_some
namespace Opx
open Go.Law
set_option maxRecDepth 100000 in
set_option maxHeartbeats 4000000 in
theorem sameO1 (user user' : ByteArray) (id st pr ttl id' st' pr' ttl' : Int) (A A' : Option Addr) (c c' : Nat) (us us' : List ByteArray) {w : World} {r : Bool} (hr : (decide (user = user') && decide (id = id') && decide (st = st') && decide (pr = pr') && decide (ttl = ttl')) = r) :
    Calls Tryd.prog 8 #[.agg #[.int .i64 1, .string user, .int .i64 id, .int .i64 st, .int .i64 pr, .int .u64 ttl, .slice A us.length c], .agg #[.int .i64 1, .string user', .int .i64 id', .int .i64 st', .int .i64 pr', .int .u64 ttl', .slice A' us'.length c']] w fun e w' => e = .returned (.bool r) ∧ Below w.heap.size w w' := by
  subst hr
  by_cases e0 : user = user'
  rotate_left
  · have n0 : (user.toList == user'.toList) = false := lst_ne e0
    have m0 : decide (user = user') = false := decide_eq_false e0
    go_enter Tryd.func8, Tryd.ntmps8
    go_wp2_with fail
    go_ret
    exact ⟨by simp [e0], ((Below.refl _ w).alloc (Nat.le_refl _) _).alloc (by simp) _⟩
  subst e0
  by_cases e1 : id = id'
  rotate_left
  · have n1 : (id == id') = false := by simp [e1]
    have m1 : decide (id = id') = false := decide_eq_false e1
    go_enter Tryd.func8, Tryd.ntmps8
    go_wp2_with fail
    go_ret
    exact ⟨by simp [e1], ((Below.refl _ w).alloc (Nat.le_refl _) _).alloc (by simp) _⟩
  subst e1
  by_cases e2 : st = st'
  rotate_left
  · have n2 : (st == st') = false := by simp [e2]
    have m2 : decide (st = st') = false := decide_eq_false e2
    go_enter Tryd.func8, Tryd.ntmps8
    go_wp2_with fail
    go_ret
    exact ⟨by simp [e2], ((Below.refl _ w).alloc (Nat.le_refl _) _).alloc (by simp) _⟩
  subst e2
  by_cases e3 : pr = pr'
  rotate_left
  · have n3 : (pr == pr') = false := by simp [e3]
    have m3 : decide (pr = pr') = false := decide_eq_false e3
    go_enter Tryd.func8, Tryd.ntmps8
    go_wp2_with fail
    go_ret
    exact ⟨by simp [e3], ((Below.refl _ w).alloc (Nat.le_refl _) _).alloc (by simp) _⟩
  subst e3
  by_cases e4 : ttl = ttl'
  rotate_left
  · have n4 : (ttl == ttl') = false := by simp [e4]
    have m4 : decide (ttl = ttl') = false := decide_eq_false e4
    go_enter Tryd.func8, Tryd.ntmps8
    go_wp2_with fail
    go_ret
    exact ⟨by simp [e4], ((Below.refl _ w).alloc (Nat.le_refl _) _).alloc (by simp) _⟩
  subst e4
  go_enter Tryd.func8, Tryd.ntmps8
  go_wp2_with fail
  go_ret
  exact ⟨by simp, ((Below.refl _ w).alloc (Nat.le_refl _) _).alloc (by simp) _⟩
set_option maxRecDepth 100000 in
set_option maxHeartbeats 4000000 in
theorem sameO2 (user user' : ByteArray) (id st pr ttl id' st' pr' ttl' : Int) (A A' : Option Addr) (c c' : Nat) (us us' : List ByteArray) {w : World} {r : Bool} (hr : (decide (user = user') && decide (id = id') && decide (ttl = ttl')) = r) :
    Calls Tryd.prog 8 #[.agg #[.int .i64 2, .string user, .int .i64 id, .int .i64 st, .int .i64 pr, .int .u64 ttl, .slice A us.length c], .agg #[.int .i64 2, .string user', .int .i64 id', .int .i64 st', .int .i64 pr', .int .u64 ttl', .slice A' us'.length c']] w fun e w' => e = .returned (.bool r) ∧ Below w.heap.size w w' := by
  subst hr
  by_cases e0 : user = user'
  rotate_left
  · have n0 : (user.toList == user'.toList) = false := lst_ne e0
    have m0 : decide (user = user') = false := decide_eq_false e0
    go_enter Tryd.func8, Tryd.ntmps8
    go_wp2_with fail
    go_ret
    exact ⟨by simp [e0], ((Below.refl _ w).alloc (Nat.le_refl _) _).alloc (by simp) _⟩
  subst e0
  by_cases e1 : id = id'
  rotate_left
  · have n1 : (id == id') = false := by simp [e1]
    have m1 : decide (id = id') = false := decide_eq_false e1
    go_enter Tryd.func8, Tryd.ntmps8
    go_wp2_with fail
    go_ret
    exact ⟨by simp [e1], ((Below.refl _ w).alloc (Nat.le_refl _) _).alloc (by simp) _⟩
  subst e1
  by_cases e2 : ttl = ttl'
  rotate_left
  · have n2 : (ttl == ttl') = false := by simp [e2]
    have m2 : decide (ttl = ttl') = false := decide_eq_false e2
    go_enter Tryd.func8, Tryd.ntmps8
    go_wp2_with fail
    go_ret
    exact ⟨by simp [e2], ((Below.refl _ w).alloc (Nat.le_refl _) _).alloc (by simp) _⟩
  subst e2
  go_enter Tryd.func8, Tryd.ntmps8
  go_wp2_with fail
  go_ret
  exact ⟨by simp, ((Below.refl _ w).alloc (Nat.le_refl _) _).alloc (by simp) _⟩
set_option maxRecDepth 100000 in
set_option maxHeartbeats 4000000 in
theorem sameO3 (user user' : ByteArray) (id st pr ttl id' st' pr' ttl' : Int) (A A' : Option Addr) (c c' : Nat) (us us' : List ByteArray) {w : World} {r : Bool} (hr : (decide (user = user') && decide (id = id')) = r) :
    Calls Tryd.prog 8 #[.agg #[.int .i64 3, .string user, .int .i64 id, .int .i64 st, .int .i64 pr, .int .u64 ttl, .slice A us.length c], .agg #[.int .i64 3, .string user', .int .i64 id', .int .i64 st', .int .i64 pr', .int .u64 ttl', .slice A' us'.length c']] w fun e w' => e = .returned (.bool r) ∧ Below w.heap.size w w' := by
  subst hr
  by_cases e0 : user = user'
  rotate_left
  · have n0 : (user.toList == user'.toList) = false := lst_ne e0
    have m0 : decide (user = user') = false := decide_eq_false e0
    go_enter Tryd.func8, Tryd.ntmps8
    go_wp2_with fail
    go_ret
    exact ⟨by simp [e0], ((Below.refl _ w).alloc (Nat.le_refl _) _).alloc (by simp) _⟩
  subst e0
  by_cases e1 : id = id'
  rotate_left
  · have n1 : (id == id') = false := by simp [e1]
    have m1 : decide (id = id') = false := decide_eq_false e1
    go_enter Tryd.func8, Tryd.ntmps8
    go_wp2_with fail
    go_ret
    exact ⟨by simp [e1], ((Below.refl _ w).alloc (Nat.le_refl _) _).alloc (by simp) _⟩
  subst e1
  go_enter Tryd.func8, Tryd.ntmps8
  go_wp2_with fail
  go_ret
  exact ⟨by simp, ((Below.refl _ w).alloc (Nat.le_refl _) _).alloc (by simp) _⟩
set_option maxRecDepth 100000 in
set_option maxHeartbeats 4000000 in
theorem sameO4 (user user' : ByteArray) (id st pr ttl id' st' pr' ttl' : Int) (A A' : Option Addr) (c c' : Nat) (us us' : List ByteArray) {w : World} {r : Bool} (hr : (decide (user = user')) = r) :
    Calls Tryd.prog 8 #[.agg #[.int .i64 4, .string user, .int .i64 id, .int .i64 st, .int .i64 pr, .int .u64 ttl, .slice A us.length c], .agg #[.int .i64 4, .string user', .int .i64 id', .int .i64 st', .int .i64 pr', .int .u64 ttl', .slice A' us'.length c']] w fun e w' => e = .returned (.bool r) ∧ Below w.heap.size w w' := by
  subst hr
  by_cases e0 : user = user'
  rotate_left
  · have n0 : (user.toList == user'.toList) = false := lst_ne e0
    have m0 : decide (user = user') = false := decide_eq_false e0
    go_enter Tryd.func8, Tryd.ntmps8
    go_wp2_with fail
    go_ret
    exact ⟨by simp [e0], ((Below.refl _ w).alloc (Nat.le_refl _) _).alloc (by simp) _⟩
  subst e0
  go_enter Tryd.func8, Tryd.ntmps8
  go_wp2_with fail
  go_ret
  exact ⟨by simp, ((Below.refl _ w).alloc (Nat.le_refl _) _).alloc (by simp) _⟩
set_option maxRecDepth 100000 in
set_option maxHeartbeats 4000000 in
theorem sameO6 (user user' : ByteArray) (id st pr ttl id' st' pr' ttl' : Int) (A A' : Option Addr) (c c' : Nat) (us us' : List ByteArray) {w : World} {r : Bool} (hr : (decide (user = user')) = r) :
    Calls Tryd.prog 8 #[.agg #[.int .i64 6, .string user, .int .i64 id, .int .i64 st, .int .i64 pr, .int .u64 ttl, .slice A us.length c], .agg #[.int .i64 6, .string user', .int .i64 id', .int .i64 st', .int .i64 pr', .int .u64 ttl', .slice A' us'.length c']] w fun e w' => e = .returned (.bool r) ∧ Below w.heap.size w w' := by
  subst hr
  by_cases e0 : user = user'
  rotate_left
  · have n0 : (user.toList == user'.toList) = false := lst_ne e0
    have m0 : decide (user = user') = false := decide_eq_false e0
    go_enter Tryd.func8, Tryd.ntmps8
    go_wp2_with fail
    go_ret
    exact ⟨by simp [e0], ((Below.refl _ w).alloc (Nat.le_refl _) _).alloc (by simp) _⟩
  subst e0
  go_enter Tryd.func8, Tryd.ntmps8
  go_wp2_with fail
  go_ret
  exact ⟨by simp, ((Below.refl _ w).alloc (Nat.le_refl _) _).alloc (by simp) _⟩
set_option maxRecDepth 100000 in
set_option maxHeartbeats 4000000 in
theorem sameO7 (user user' : ByteArray) (id st pr ttl id' st' pr' ttl' : Int) (A A' : Option Addr) (c c' : Nat) (us us' : List ByteArray) {w : World} {r : Bool} (hr : (decide (user = user')) = r) :
    Calls Tryd.prog 8 #[.agg #[.int .i64 7, .string user, .int .i64 id, .int .i64 st, .int .i64 pr, .int .u64 ttl, .slice A us.length c], .agg #[.int .i64 7, .string user', .int .i64 id', .int .i64 st', .int .i64 pr', .int .u64 ttl', .slice A' us'.length c']] w fun e w' => e = .returned (.bool r) ∧ Below w.heap.size w w' := by
  subst hr
  by_cases e0 : user = user'
  rotate_left
  · have n0 : (user.toList == user'.toList) = false := lst_ne e0
    have m0 : decide (user = user') = false := decide_eq_false e0
    go_enter Tryd.func8, Tryd.ntmps8
    go_wp2_with fail
    go_ret
    exact ⟨by simp [e0], ((Below.refl _ w).alloc (Nat.le_refl _) _).alloc (by simp) _⟩
  subst e0
  go_enter Tryd.func8, Tryd.ntmps8
  go_wp2_with fail
  go_ret
  exact ⟨by simp, ((Below.refl _ w).alloc (Nat.le_refl _) _).alloc (by simp) _⟩
set_option maxRecDepth 100000 in
set_option maxHeartbeats 4000000 in
theorem sameO8 (user user' : ByteArray) (id st pr ttl id' st' pr' ttl' : Int) (A A' : Option Addr) (c c' : Nat) (us us' : List ByteArray) {w : World} {r : Bool} (hr : true = r) :
    Calls Tryd.prog 8 #[.agg #[.int .i64 8, .string user, .int .i64 id, .int .i64 st, .int .i64 pr, .int .u64 ttl, .slice A us.length c], .agg #[.int .i64 8, .string user', .int .i64 id', .int .i64 st', .int .i64 pr', .int .u64 ttl', .slice A' us'.length c']] w fun e w' => e = .returned (.bool r) ∧ Below w.heap.size w w' := by
  subst hr
  go_enter Tryd.func8, Tryd.ntmps8
  go_wp2_with fail
  go_ret
  exact ⟨rfl, ((Below.refl _ w).alloc (Nat.le_refl _) _).alloc (by simp) _⟩
set_option maxRecDepth 100000 in
set_option maxHeartbeats 4000000 in
theorem sameO9 (user user' : ByteArray) (id st pr ttl id' st' pr' ttl' : Int) (A A' : Option Addr) (c c' : Nat) (us us' : List ByteArray) {w : World} {r : Bool} (hr : true = r) :
    Calls Tryd.prog 8 #[.agg #[.int .i64 9, .string user, .int .i64 id, .int .i64 st, .int .i64 pr, .int .u64 ttl, .slice A us.length c], .agg #[.int .i64 9, .string user', .int .i64 id', .int .i64 st', .int .i64 pr', .int .u64 ttl', .slice A' us'.length c']] w fun e w' => e = .returned (.bool r) ∧ Below w.heap.size w w' := by
  subst hr
  go_enter Tryd.func8, Tryd.ntmps8
  go_wp2_with fail
  go_ret
  exact ⟨rfl, ((Below.refl _ w).alloc (Nat.le_refl _) _).alloc (by simp) _⟩
set_option maxRecDepth 100000 in
set_option maxHeartbeats 4000000 in
theorem sameO0 (user user' : ByteArray) (id st pr ttl id' st' pr' ttl' : Int) (A A' : Option Addr) (c c' : Nat) (us us' : List ByteArray) {w : World} {k k' : Int} (hk : ¬ k = k') {r : Bool} (hr : false = r) :
    Calls Tryd.prog 8 #[.agg #[.int .i64 k, .string user, .int .i64 id, .int .i64 st, .int .i64 pr, .int .u64 ttl, .slice A us.length c], .agg #[.int .i64 k', .string user', .int .i64 id', .int .i64 st', .int .i64 pr', .int .u64 ttl', .slice A' us'.length c']] w fun e w' => e = .returned (.bool r) ∧ Below w.heap.size w w' := by
  subst hr
  have d : (k != k') = true := by simp [hk]
  go_enter Tryd.func8, Tryd.ntmps8
  go_wp2_with fail
  go_ret
  exact ⟨rfl, ((Below.refl _ w).alloc (Nat.le_refl _) _).alloc (by simp) _⟩
end Opx
end Go.Proofs.YtdfonlbbohnfhaaDoor
