/-
  What the reference's name and Bad (layer 10) come to.
-/
import Derived.Test.YtdkjcheannehhaaGreatMod14
namespace Go.Proofs.YtdkjcheannehhaaGreat
open Go.RowKit Go.Shelf
attribute [local go_sem] Oper.semAt_some
namespace Mod
open Go.Law Feed Bk
set_option maxHeartbeats 1000000 in
theorem rname (u : ByteArray) (w : World) (hu : u.size ≤ maxLen) {r : Bool} (hr : nameB u = r) : Calls Tryz.prog 56 #[.string u] w fun e w' => e = .returned (.bool r) ∧ w = w' := by
  unfold maxLen at hu
  subst hr
  by_cases h0 : 0 < u.size
  · have d0 : decide ((0 : Int) < (u.size : Int)) = true := by simp; omega
    by_cases h1 : u.size < 17
    · have d1 : decide ((u.size : Int) < 17) = true := by simp; omega
      have HE : Hid (nameB u = true) := by show Hash.okLen u.size = true; unfold Hash.okLen; exact decide_eq_true (by omega)
      go_enter Tryz.func56, Tryz.ntmps56
      go_wp2_with fail
      go_ret
      exact ⟨by rw [HE.out]; rfl, rfl⟩
    · have d1 : decide ((u.size : Int) < 17) = false := by simp; omega
      have HE : Hid (nameB u = false) := by show Hash.okLen u.size = false; unfold Hash.okLen; exact decide_eq_false (by omega)
      go_enter Tryz.func56, Tryz.ntmps56
      go_wp2_with fail
      go_ret
      exact ⟨by rw [HE.out]; rfl, rfl⟩
  · have d0 : decide ((0 : Int) < (u.size : Int)) = false := decide_eq_false (by omega)
    have HE : Hid (nameB u = false) := by show Hash.okLen u.size = false; unfold Hash.okLen; exact decide_eq_false (by omega)
    go_enter Tryz.func56, Tryz.ntmps56
    go_wp2_with fail
    go_ret
    exact ⟨by rw [HE.out]; rfl, rfl⟩
set_option maxRecDepth 100000 in
set_option maxHeartbeats 1600000 in
theorem rbad1 (user : ByteArray) (id st pr ttl : Int) (A : Option Addr) (c : Nat) (us : List ByteArray) {w : World} (hu : user.size ≤ maxLen) {r : Bool} (hr : (!(nameB user && (decide (0 ≤ id) && decide (id < 256)) && decide (0 < st) && decide (st < 10) && decide (0 ≤ pr) && decide (pr < 10))) = r) :
    Calls Tryz.prog 30 #[.agg #[.int .i64 1, .string user, .int .i64 id, .int .i64 st, .int .i64 pr, .int .u64 ttl, .slice A us.length c]] w fun e w' => e = .returned (.bool r) ∧ Below w.heap.size w w' := by
  subst hr
  go_enter Tryz.func30, Tryz.ntmps30
  go_wp2_with fail
  all_goals (refine (rname user _ hu rfl).mono ?_; rintro e w' ⟨rfl, rfl⟩; go_wp2_with fail)
  all_goals (go_ret; refine ⟨?_, (Below.refl _ w).alloc (Nat.le_refl _) _⟩)
  all_goals (congr 2 <;> simp_all)
set_option maxRecDepth 100000 in
set_option maxHeartbeats 1600000 in
theorem rbad2 (user : ByteArray) (id st pr ttl : Int) (A : Option Addr) (c : Nat) (us : List ByteArray) {w : World} (hu : user.size ≤ maxLen) {r : Bool} (hr : (!(nameB user && (decide (0 ≤ id) && decide (id < 256)))) = r) :
    Calls Tryz.prog 30 #[.agg #[.int .i64 2, .string user, .int .i64 id, .int .i64 st, .int .i64 pr, .int .u64 ttl, .slice A us.length c]] w fun e w' => e = .returned (.bool r) ∧ Below w.heap.size w w' := by
  subst hr
  go_enter Tryz.func30, Tryz.ntmps30
  go_wp2_with fail
  all_goals (refine (rname user _ hu rfl).mono ?_; rintro e w' ⟨rfl, rfl⟩; go_wp2_with fail)
  all_goals (go_ret; refine ⟨?_, (Below.refl _ w).alloc (Nat.le_refl _) _⟩)
  all_goals (congr 2 <;> simp_all)
set_option maxRecDepth 100000 in
set_option maxHeartbeats 1600000 in
theorem rbad3 (user : ByteArray) (id st pr ttl : Int) (A : Option Addr) (c : Nat) (us : List ByteArray) {w : World} (hu : user.size ≤ maxLen) {r : Bool} (hr : (!(nameB user && (decide (0 ≤ id) && decide (id < 256)))) = r) :
    Calls Tryz.prog 30 #[.agg #[.int .i64 3, .string user, .int .i64 id, .int .i64 st, .int .i64 pr, .int .u64 ttl, .slice A us.length c]] w fun e w' => e = .returned (.bool r) ∧ Below w.heap.size w w' := by
  subst hr
  go_enter Tryz.func30, Tryz.ntmps30
  go_wp2_with fail
  all_goals (refine (rname user _ hu rfl).mono ?_; rintro e w' ⟨rfl, rfl⟩; go_wp2_with fail)
  all_goals (go_ret; refine ⟨?_, (Below.refl _ w).alloc (Nat.le_refl _) _⟩)
  all_goals (congr 2 <;> simp_all)
set_option maxRecDepth 100000 in
set_option maxHeartbeats 1600000 in
theorem rbad4 (user : ByteArray) (id st pr ttl : Int) (A : Option Addr) (c : Nat) (us : List ByteArray) {w : World} (hu : user.size ≤ maxLen) {r : Bool} (hr : (!nameB user) = r) :
    Calls Tryz.prog 30 #[.agg #[.int .i64 4, .string user, .int .i64 id, .int .i64 st, .int .i64 pr, .int .u64 ttl, .slice A us.length c]] w fun e w' => e = .returned (.bool r) ∧ Below w.heap.size w w' := by
  subst hr
  go_enter Tryz.func30, Tryz.ntmps30
  go_wp2_with fail
  all_goals (refine (rname user _ hu rfl).mono ?_; rintro e w' ⟨rfl, rfl⟩; go_wp2_with fail)
  all_goals (go_ret; refine ⟨?_, (Below.refl _ w).alloc (Nat.le_refl _) _⟩)
  all_goals (congr 2 <;> simp_all)
set_option maxRecDepth 100000 in
set_option maxHeartbeats 1600000 in
theorem rbad6 (user : ByteArray) (id st pr ttl : Int) (A : Option Addr) (c : Nat) (us : List ByteArray) {w : World} (hu : user.size ≤ maxLen) {r : Bool} (hr : (!nameB user) = r) :
    Calls Tryz.prog 30 #[.agg #[.int .i64 6, .string user, .int .i64 id, .int .i64 st, .int .i64 pr, .int .u64 ttl, .slice A us.length c]] w fun e w' => e = .returned (.bool r) ∧ Below w.heap.size w w' := by
  subst hr
  go_enter Tryz.func30, Tryz.ntmps30
  go_wp2_with fail
  all_goals (refine (rname user _ hu rfl).mono ?_; rintro e w' ⟨rfl, rfl⟩; go_wp2_with fail)
  all_goals (go_ret; refine ⟨?_, (Below.refl _ w).alloc (Nat.le_refl _) _⟩)
  all_goals (congr 2 <;> simp_all)
set_option maxRecDepth 100000 in
set_option maxHeartbeats 1600000 in
theorem rbad7 (user : ByteArray) (id st pr ttl : Int) (A : Option Addr) (c : Nat) (us : List ByteArray) {w : World} (hu : user.size ≤ maxLen) {r : Bool} (hr : (!nameB user) = r) :
    Calls Tryz.prog 30 #[.agg #[.int .i64 7, .string user, .int .i64 id, .int .i64 st, .int .i64 pr, .int .u64 ttl, .slice A us.length c]] w fun e w' => e = .returned (.bool r) ∧ Below w.heap.size w w' := by
  subst hr
  go_enter Tryz.func30, Tryz.ntmps30
  go_wp2_with fail
  all_goals (refine (rname user _ hu rfl).mono ?_; rintro e w' ⟨rfl, rfl⟩; go_wp2_with fail)
  all_goals (go_ret; refine ⟨?_, (Below.refl _ w).alloc (Nat.le_refl _) _⟩)
  all_goals (congr 2 <;> simp_all)
set_option maxRecDepth 100000 in
set_option maxHeartbeats 1600000 in
theorem rbad8 (user : ByteArray) (id st pr ttl : Int) (A : Option Addr) (c : Nat) (us : List ByteArray) {w : World} {r : Bool} (hr : false = r) :
    Calls Tryz.prog 30 #[.agg #[.int .i64 8, .string user, .int .i64 id, .int .i64 st, .int .i64 pr, .int .u64 ttl, .slice A us.length c]] w fun e w' => e = .returned (.bool r) ∧ Below w.heap.size w w' := by
  subst hr
  go_enter Tryz.func30, Tryz.ntmps30
  go_wp2_with fail
  all_goals (go_ret; refine ⟨?_, (Below.refl _ w).alloc (Nat.le_refl _) _⟩)
  all_goals (congr 2 <;> simp_all)
set_option maxRecDepth 100000 in
set_option maxHeartbeats 1600000 in
theorem rbad9 (user : ByteArray) (id st pr ttl : Int) (A : Option Addr) (c : Nat) (us : List ByteArray) {w : World} {r : Bool} (hr : false = r) :
    Calls Tryz.prog 30 #[.agg #[.int .i64 9, .string user, .int .i64 id, .int .i64 st, .int .i64 pr, .int .u64 ttl, .slice A us.length c]] w fun e w' => e = .returned (.bool r) ∧ Below w.heap.size w w' := by
  subst hr
  go_enter Tryz.func30, Tryz.ntmps30
  go_wp2_with fail
  all_goals (go_ret; refine ⟨?_, (Below.refl _ w).alloc (Nat.le_refl _) _⟩)
  all_goals (congr 2 <;> simp_all)
set_option maxRecDepth 100000 in
set_option maxHeartbeats 1600000 in
theorem rbad0 (user : ByteArray) (id st pr ttl : Int) (A : Option Addr) (c : Nat) (us : List ByteArray) {w : World} {kind : Int} (hk : ¬ (1 ≤ kind ∧ kind ≤ 9)) {r : Bool} (hr : true = r) :
    Calls Tryz.prog 30 #[.agg #[.int .i64 kind, .string user, .int .i64 id, .int .i64 st, .int .i64 pr, .int .u64 ttl, .slice A us.length c]] w fun e w' => e = .returned (.bool r) ∧ Below w.heap.size w w' := by
  subst hr
  have k1 : (kind == 1) = false := by simp; omega
  have k2 : (kind == 2) = false := by simp; omega
  have k3 : (kind == 3) = false := by simp; omega
  have k4 : (kind == 4) = false := by simp; omega
  have k5 : (kind == 5) = false := by simp; omega
  have k6 : (kind == 6) = false := by simp; omega
  have k7 : (kind == 7) = false := by simp; omega
  have k8 : (kind == 8) = false := by simp; omega
  have k9 : (kind == 9) = false := by simp; omega
  have m8 : (kind != 8) = true := by simp; omega
  have m9 : (kind != 9) = true := by simp; omega
  go_enter Tryz.func30, Tryz.ntmps30
  go_wp2_with fail
  all_goals (go_ret; refine ⟨?_, (Below.refl _ w).alloc (Nat.le_refl _) _⟩)
  all_goals (congr 2 <;> simp_all)
end Mod
end Go.Proofs.YtdkjcheannehhaaGreat
