/-
  What the reference's name and Bad (layer 10) come to.
-/
import Derived.Test.YtohdlnefgieenaaGreatJ24
import Derived.Test.YtohdlnefgieenaaGreatJ30
import Derived.Deep.CutBlock
namespace Go.Proofs.YtohdlnefgieenaaGreat
open Go.RowKit Go.Shelf
attribute [local go_sem] Oper.semAt_some
namespace Mod
open Go.Law Feed Bk
set_option maxHeartbeats 1000000 in
theorem rname (u : ByteArray) (w : World) (hu : u.size ≤ maxLen) {r : Bool} (hr : nameB u = r) : Calls Tryz.prog 60 #[.string u] w fun e w' => e = .returned (.bool r) ∧ w = w' := by
 unfold maxLen at hu
 subst hr
 by_cases h0 : 0 < u.size
 ·have d0 : decide ((0 : Int) < (u.size : Int)) = true := by simp; omega
  by_cases h1 : u.size < 17
  ·have d1 : decide ((u.size : Int) < 17) = true := by simp; omega
   have HE : Hid (nameB u = true) := by show Hash.okLen u.size = true; unfold Hash.okLen; exact decide_eq_true (by omega)
   go_enter Tryz.func60, Tryz.ntmps60
   go_wp2_with fail
   go_ret
   exact ⟨by rw [HE.out]; rfl, rfl⟩
  ·have d1 : decide ((u.size : Int) < 17) = false := by simp; omega
   have HE : Hid (nameB u = false) := by show Hash.okLen u.size = false; unfold Hash.okLen; exact decide_eq_false (by omega)
   go_enter Tryz.func60, Tryz.ntmps60
   go_wp2_with fail
   go_ret
   exact ⟨by rw [HE.out]; rfl, rfl⟩
 ·have d0 : decide ((0 : Int) < (u.size : Int)) = false := decide_eq_false (by omega)
  have HE : Hid (nameB u = false) := by show Hash.okLen u.size = false; unfold Hash.okLen; exact decide_eq_false (by omega)
  go_enter Tryz.func60, Tryz.ntmps60
  go_wp2_with fail
  go_ret
  exact ⟨by rw [HE.out]; rfl, rfl⟩
set_option maxRecDepth 100000 in
set_option maxHeartbeats 1600000 in
theorem rbad1 (user : ByteArray) (id st pr ttl : Int) (A : Option Addr) (c : Nat) (us : List ByteArray) {w : World} (hu : user.size ≤ maxLen) {r : Bool} (hr : (!(nameB user && (decide (0 ≤ id) && decide (id < 256)) && decide (0 < st) && decide (st < 10) && decide (0 ≤ pr) && decide (pr < 10))) = r) :
  Calls Tryz.prog 31 #[.agg #[.int .i64 1, .string user, .int .i64 id, .int .i64 st, .int .i64 pr, .int .u64 ttl, .slice A us.length c]] w fun e w' => e = .returned (.bool r) ∧ Below w.heap.size w w' := by
 subst hr
 go_enter Tryz.func31, Tryz.ntmps31
 go_wp2_with fail
 all_goals (refine (rname user _ hu rfl).mono ?_; rintro e w' ⟨rfl, rfl⟩; go_wp2_with fail)
 all_goals (go_ret; refine ⟨?_, (Below.refl _ w).alloc (Nat.le_refl _) _⟩)
 all_goals (congr 2 <;> simp_all)
set_option maxRecDepth 100000 in
set_option maxHeartbeats 1600000 in
theorem rbad2 (user : ByteArray) (id st pr ttl : Int) (A : Option Addr) (c : Nat) (us : List ByteArray) {w : World} (hu : user.size ≤ maxLen) {r : Bool} (hr : (!(nameB user && (decide (0 ≤ id) && decide (id < 256)))) = r) :
  Calls Tryz.prog 31 #[.agg #[.int .i64 2, .string user, .int .i64 id, .int .i64 st, .int .i64 pr, .int .u64 ttl, .slice A us.length c]] w fun e w' => e = .returned (.bool r) ∧ Below w.heap.size w w' := by
 subst hr
 go_enter Tryz.func31, Tryz.ntmps31
 go_wp2_with fail
 all_goals (refine (rname user _ hu rfl).mono ?_; rintro e w' ⟨rfl, rfl⟩; go_wp2_with fail)
 all_goals (go_ret; refine ⟨?_, (Below.refl _ w).alloc (Nat.le_refl _) _⟩)
 all_goals (congr 2 <;> simp_all)
set_option maxRecDepth 100000 in
set_option maxHeartbeats 1600000 in
theorem rbad3 (user : ByteArray) (id st pr ttl : Int) (A : Option Addr) (c : Nat) (us : List ByteArray) {w : World} (hu : user.size ≤ maxLen) {r : Bool} (hr : (!(nameB user && (decide (0 ≤ id) && decide (id < 256)))) = r) :
  Calls Tryz.prog 31 #[.agg #[.int .i64 3, .string user, .int .i64 id, .int .i64 st, .int .i64 pr, .int .u64 ttl, .slice A us.length c]] w fun e w' => e = .returned (.bool r) ∧ Below w.heap.size w w' := by
 subst hr
 go_enter Tryz.func31, Tryz.ntmps31
 go_wp2_with fail
 all_goals (refine (rname user _ hu rfl).mono ?_; rintro e w' ⟨rfl, rfl⟩; go_wp2_with fail)
 all_goals (go_ret; refine ⟨?_, (Below.refl _ w).alloc (Nat.le_refl _) _⟩)
 all_goals (congr 2 <;> simp_all)
set_option maxRecDepth 100000 in
set_option maxHeartbeats 1600000 in
theorem rbad4 (user : ByteArray) (id st pr ttl : Int) (A : Option Addr) (c : Nat) (us : List ByteArray) {w : World} (hu : user.size ≤ maxLen) {r : Bool} (hr : (!nameB user) = r) :
  Calls Tryz.prog 31 #[.agg #[.int .i64 4, .string user, .int .i64 id, .int .i64 st, .int .i64 pr, .int .u64 ttl, .slice A us.length c]] w fun e w' => e = .returned (.bool r) ∧ Below w.heap.size w w' := by
 subst hr
 go_enter Tryz.func31, Tryz.ntmps31
 go_wp2_with fail
 all_goals (refine (rname user _ hu rfl).mono ?_; rintro e w' ⟨rfl, rfl⟩; go_wp2_with fail)
 all_goals (go_ret; refine ⟨?_, (Below.refl _ w).alloc (Nat.le_refl _) _⟩)
 all_goals (congr 2 <;> simp_all)
set_option maxRecDepth 100000 in
set_option maxHeartbeats 1600000 in
theorem rbad6 (user : ByteArray) (id st pr ttl : Int) (A : Option Addr) (c : Nat) (us : List ByteArray) {w : World} (hu : user.size ≤ maxLen) {r : Bool} (hr : (!nameB user) = r) :
  Calls Tryz.prog 31 #[.agg #[.int .i64 6, .string user, .int .i64 id, .int .i64 st, .int .i64 pr, .int .u64 ttl, .slice A us.length c]] w fun e w' => e = .returned (.bool r) ∧ Below w.heap.size w w' := by
 subst hr
 go_enter Tryz.func31, Tryz.ntmps31
 go_wp2_with fail
 all_goals (refine (rname user _ hu rfl).mono ?_; rintro e w' ⟨rfl, rfl⟩; go_wp2_with fail)
 all_goals (go_ret; refine ⟨?_, (Below.refl _ w).alloc (Nat.le_refl _) _⟩)
 all_goals (congr 2 <;> simp_all)
set_option maxRecDepth 100000 in
set_option maxHeartbeats 1600000 in
theorem rbad7 (user : ByteArray) (id st pr ttl : Int) (A : Option Addr) (c : Nat) (us : List ByteArray) {w : World} (hu : user.size ≤ maxLen) {r : Bool} (hr : (!nameB user) = r) :
  Calls Tryz.prog 31 #[.agg #[.int .i64 7, .string user, .int .i64 id, .int .i64 st, .int .i64 pr, .int .u64 ttl, .slice A us.length c]] w fun e w' => e = .returned (.bool r) ∧ Below w.heap.size w w' := by
 subst hr
 go_enter Tryz.func31, Tryz.ntmps31
 go_wp2_with fail
 all_goals (refine (rname user _ hu rfl).mono ?_; rintro e w' ⟨rfl, rfl⟩; go_wp2_with fail)
 all_goals (go_ret; refine ⟨?_, (Below.refl _ w).alloc (Nat.le_refl _) _⟩)
 all_goals (congr 2 <;> simp_all)
set_option maxRecDepth 100000 in
set_option maxHeartbeats 1600000 in
theorem rbad8 (user : ByteArray) (id st pr ttl : Int) (A : Option Addr) (c : Nat) (us : List ByteArray) {w : World} {r : Bool} (hr : false = r) :
  Calls Tryz.prog 31 #[.agg #[.int .i64 8, .string user, .int .i64 id, .int .i64 st, .int .i64 pr, .int .u64 ttl, .slice A us.length c]] w fun e w' => e = .returned (.bool r) ∧ Below w.heap.size w w' := by
 subst hr
 go_enter Tryz.func31, Tryz.ntmps31
 go_wp2_with fail
 all_goals (go_ret; refine ⟨?_, (Below.refl _ w).alloc (Nat.le_refl _) _⟩)
 all_goals (congr 2 <;> simp_all)
set_option maxRecDepth 100000 in
set_option maxHeartbeats 1600000 in
theorem rbad9 (user : ByteArray) (id st pr ttl : Int) (A : Option Addr) (c : Nat) (us : List ByteArray) {w : World} {r : Bool} (hr : false = r) :
  Calls Tryz.prog 31 #[.agg #[.int .i64 9, .string user, .int .i64 id, .int .i64 st, .int .i64 pr, .int .u64 ttl, .slice A us.length c]] w fun e w' => e = .returned (.bool r) ∧ Below w.heap.size w w' := by
 subst hr
 go_enter Tryz.func31, Tryz.ntmps31
 go_wp2_with fail
 all_goals (go_ret; refine ⟨?_, (Below.refl _ w).alloc (Nat.le_refl _) _⟩)
 all_goals (congr 2 <;> simp_all)
set_option maxRecDepth 100000 in
set_option maxHeartbeats 1600000 in
theorem rbad0 (user : ByteArray) (id st pr ttl : Int) (A : Option Addr) (c : Nat) (us : List ByteArray) {w : World} {kind : Int} (hk : ¬ (1 ≤ kind ∧ kind ≤ 9)) {r : Bool} (hr : true = r) :
  Calls Tryz.prog 31 #[.agg #[.int .i64 kind, .string user, .int .i64 id, .int .i64 st, .int .i64 pr, .int .u64 ttl, .slice A us.length c]] w fun e w' => e = .returned (.bool r) ∧ Below w.heap.size w w' := by
 subst hr
 have k1 : (kind == 1) = false := by simp; omega
 have k2 : (kind == 2) = false := by simp; omega
 have k3 : (kind == 3) = false := by simp; omega
 have k4 : (kind == 4) = false := by simp; omega
 have k5 : (kind == 5) = false := by simp; omega
 have k6 : (kind == 6) = false := by simp; omega
 have k7 : (kind == 7) = false := by simp; omega
 have k8 : (kind == 8) = false := by simp; omega
 have k9 : (kind == 9) = false := by simp; omega
 have m8 : (kind != 8) = true := by simp; omega
 have m9 : (kind != 9) = true := by simp; omega
 go_enter Tryz.func31, Tryz.ntmps31
 go_wp2_with fail
 all_goals (go_ret; refine ⟨?_, (Below.refl _ w).alloc (Nat.le_refl _) _⟩)
 all_goals (congr 2 <;> simp_all)
end Mod
end Go.Proofs.YtohdlnefgieenaaGreat
namespace Go.Proofs.YtohdlnefgieenaaGreat
open Go.RowKit Go.Shelf
attribute [local go_sem] Oper.semAt_some
namespace Mod
open Go.Law Feed Bk
theorem op_part {w : World} {b : Nat} {v0 v1 v2 v3 v4 v5 v6 : Value} (h : Law.Is w b 37 #[v0, v1, v2, v3, v4, v5, v6]) : (partAt ⟨b, 0, none⟩ 6 56).run Tryz.prog w = .ok ⟨b, 6, none⟩ w := by
 unfold Law.Is at h
 have e0 : Tryz.prog.cellsOf 37 = 7 := by kernel_rfl
 have e1 : Tryz.prog.bytesOf 37 = 80 := by kernel_rfl
 have e2 : byteOfCell Tryz.prog Tryz.prog.depth 37 0 = some 0 := by kernel_rfl
 have e3 : byteOfCell Tryz.prog Tryz.prog.depth 37 6 = some 56 := by kernel_rfl
 have e4 : ∀ g : Option (TypeId × Nat) → Sem (Option (TypeId × Nat)), (Sem.shape b g).run Tryz.prog w = (g (w.shape? b)).run Tryz.prog w := fun g => rfl
 have e5 : w.shape? b = some (37, 7) := by simp [World.shape?, h]
 simp [partAt, byteOf, noView, viewAt, shape, getObj, go_sem, e0, e1, e2, e3, e4, e5]
set_option maxRecDepth 100000 in
set_option maxHeartbeats 2000000 in
theorem rbad5 (user : ByteArray) (id st pr ttl : Int) (A : Option Addr) (c : Nat) (us : List ByteArray) {w : World} (hs : Seq w 0 w.heap.size A (us.map .string)) (hl : us.length ≤ 1000) (hz : ∀ u ∈ us, u.size ≤ maxLen) {r : Bool} (hr : (!((decide (1 ≤ us.length) && decide (us.length ≤ 8)) && us.all nameB)) = r) :
  Calls Tryz.prog 31 #[.agg #[.int .i64 5, .string user, .int .i64 id, .int .i64 st, .int .i64 pr, .int .u64 ttl, .slice A us.length c]] w fun e w' => e = .returned (.bool r) ∧ Below w.heap.size w w' := by
 have bb := (Below.refl w.heap.size w).alloc (Nat.le_refl _) (.cells #[.int .i64 5, .string user, .int .i64 id, .int .i64 st, .int .i64 pr, .int .u64 ttl, .slice A us.length c] 37)
 have HS1 := Lib.hid ((hs.below bb).more bb.size)
 have HX := Lib.hid (Is.new w 37 #[.int .i64 5, .string user, .int .i64 id, .int .i64 st, .int .i64 pr, .int .u64 ttl, .slice A us.length c] rfl)
 have HB := Lib.hid bb
 have HZ := Lib.hid hz
 have HR := Lib.hid hr
 clear hs hz bb hr
 by_cases h1 : us.length < 1
 ·skip
  cases hid : decide (0 ≤ id) <;>
  ·have HB0 : Hid (true = !(decide (1 ≤ us.length) && decide (us.length ≤ 8))) := by show _ = _; rw [Bool.eq_iff_iff]; simp only [Bool.not_eq_true', Bool.and_eq_false_iff, decide_eq_false_iff_not, true_iff]; omega
   have l1 : decide ((us.length : Int) < 1) = true := decide_eq_true (by omega)
   have l2 : decide ((8 : Int) < (us.length : Int)) = false := decide_eq_false (by omega)
   go_enter Tryz.func31, Tryz.ntmps31
   go_wp2_with fail
   generalize (w.alloc (.cells #[.int .i64 5, .string user, .int .i64 id, .int .i64 st, .int .i64 pr, .int .u64 ttl, .slice A us.length c] 37)) = w1 at *
   have lx := HX.out.lt
   have c6 : w1.cell? ⟨w.heap.size, 6, none⟩ = some (.slice A us.length c) := HX.out.cell' rfl
   have hpart := op_part HX.out
   go_loop [4, 5] (fun v i => ∃ j : Nat, j ≤ us.length ∧ i = .int .i64 j ∧ v = .bool (true || !(us.take j).all nameB)) (fun _ i => us.length - (intOf i).toNat)
   case atStart => exact ⟨0, Nat.zero_le _, rfl, by simp⟩
   case round =>
    obtain ⟨j, hj, rfl, rfl⟩ := hrel
    by_cases hlt : j < us.length
    ·obtain ⟨b, off, rfl, _, hb, c0⟩ := HS1.out.str hlt
     have e1 : decide ((j : Int) < (us.length : Int)) = true := by simp; omega
     have HT : Hid ((us.take (j + 1)).all nameB = ((us.take j).all nameB && nameB us[j])) := by show _ = _; rw [List.take_succ_eq_append_getElem hlt, List.all_append]; simp
     have hzu := Lib.hid (HZ.out _ (List.getElem_mem hlt))
     generalize us[j] = u at *
     cases hv : (true || !(us.take j).all nameB) with
     | true =>
       go_wp2_with fail
       go_round
       case rel => exact ⟨j + 1, by omega, by go_num, by rw [HT.out]; simp_all⟩
       case measure => simp [intOf]; omega
     | false =>
       go_wp2_with fail
       refine (rname u _ hzu.out rfl).mono ?_
       rintro e w' ⟨rfl, rfl⟩
       go_wp2_with fail
       go_round
       case rel => exact ⟨j + 1, by omega, by go_num, by rw [HT.out]; simp_all⟩
       case measure => simp [intOf]; omega
    ·have e1 : us.take j = us := List.take_of_length_le (by omega)
     have e2 : decide ((j : Int) < (us.length : Int)) = false := by simp; omega
     rw [e1]
     go_wp2_with fail
     go_ret
     exact ⟨by rw [← HR.out, Bool.not_and, ← HB0.out]; rfl, HB.out⟩
 ·by_cases h2 : 8 < us.length
  ·skip
   cases hid : decide (0 ≤ id) <;>
   ·have HB0 : Hid (true = !(decide (1 ≤ us.length) && decide (us.length ≤ 8))) := by show _ = _; rw [Bool.eq_iff_iff]; simp only [Bool.not_eq_true', Bool.and_eq_false_iff, decide_eq_false_iff_not, true_iff]; omega
    have l1 : decide ((us.length : Int) < 1) = false := decide_eq_false (by omega)
    have l2 : decide ((8 : Int) < (us.length : Int)) = true := decide_eq_true (by omega)
    go_enter Tryz.func31, Tryz.ntmps31
    go_wp2_with fail
    generalize (w.alloc (.cells #[.int .i64 5, .string user, .int .i64 id, .int .i64 st, .int .i64 pr, .int .u64 ttl, .slice A us.length c] 37)) = w1 at *
    have lx := HX.out.lt
    have c6 : w1.cell? ⟨w.heap.size, 6, none⟩ = some (.slice A us.length c) := HX.out.cell' rfl
    have hpart := op_part HX.out
    go_loop [4, 5] (fun v i => ∃ j : Nat, j ≤ us.length ∧ i = .int .i64 j ∧ v = .bool (true || !(us.take j).all nameB)) (fun _ i => us.length - (intOf i).toNat)
    case atStart => exact ⟨0, Nat.zero_le _, rfl, by simp⟩
    case round =>
     obtain ⟨j, hj, rfl, rfl⟩ := hrel
     by_cases hlt : j < us.length
     ·obtain ⟨b, off, rfl, _, hb, c0⟩ := HS1.out.str hlt
      have e1 : decide ((j : Int) < (us.length : Int)) = true := by simp; omega
      have HT : Hid ((us.take (j + 1)).all nameB = ((us.take j).all nameB && nameB us[j])) := by show _ = _; rw [List.take_succ_eq_append_getElem hlt, List.all_append]; simp
      have hzu := Lib.hid (HZ.out _ (List.getElem_mem hlt))
      generalize us[j] = u at *
      cases hv : (true || !(us.take j).all nameB) with
      | true =>
        go_wp2_with fail
        go_round
        case rel => exact ⟨j + 1, by omega, by go_num, by rw [HT.out]; simp_all⟩
        case measure => simp [intOf]; omega
      | false =>
        go_wp2_with fail
        refine (rname u _ hzu.out rfl).mono ?_
        rintro e w' ⟨rfl, rfl⟩
        go_wp2_with fail
        go_round
        case rel => exact ⟨j + 1, by omega, by go_num, by rw [HT.out]; simp_all⟩
        case measure => simp [intOf]; omega
     ·have e1 : us.take j = us := List.take_of_length_le (by omega)
      have e2 : decide ((j : Int) < (us.length : Int)) = false := by simp; omega
      rw [e1]
      go_wp2_with fail
      go_ret
      exact ⟨by rw [← HR.out, Bool.not_and, ← HB0.out]; rfl, HB.out⟩
  ·skip
   cases hid : decide (0 ≤ id) <;>
   ·have HB0 : Hid (false = !(decide (1 ≤ us.length) && decide (us.length ≤ 8))) := by show _ = _; rw [Bool.eq_iff_iff]; simp only [Bool.not_eq_true', Bool.and_eq_false_iff, decide_eq_false_iff_not, Bool.false_eq_true, false_iff]; omega
    have l1 : decide ((us.length : Int) < 1) = false := decide_eq_false (by omega)
    have l2 : decide ((8 : Int) < (us.length : Int)) = false := decide_eq_false (by omega)
    go_enter Tryz.func31, Tryz.ntmps31
    go_wp2_with fail
    generalize (w.alloc (.cells #[.int .i64 5, .string user, .int .i64 id, .int .i64 st, .int .i64 pr, .int .u64 ttl, .slice A us.length c] 37)) = w1 at *
    have lx := HX.out.lt
    have c6 : w1.cell? ⟨w.heap.size, 6, none⟩ = some (.slice A us.length c) := HX.out.cell' rfl
    have hpart := op_part HX.out
    go_loop [4, 5] (fun v i => ∃ j : Nat, j ≤ us.length ∧ i = .int .i64 j ∧ v = .bool (false || !(us.take j).all nameB)) (fun _ i => us.length - (intOf i).toNat)
    case atStart => exact ⟨0, Nat.zero_le _, rfl, by simp⟩
    case round =>
     obtain ⟨j, hj, rfl, rfl⟩ := hrel
     by_cases hlt : j < us.length
     ·obtain ⟨b, off, rfl, _, hb, c0⟩ := HS1.out.str hlt
      have e1 : decide ((j : Int) < (us.length : Int)) = true := by simp; omega
      have HT : Hid ((us.take (j + 1)).all nameB = ((us.take j).all nameB && nameB us[j])) := by show _ = _; rw [List.take_succ_eq_append_getElem hlt, List.all_append]; simp
      have hzu := Lib.hid (HZ.out _ (List.getElem_mem hlt))
      generalize us[j] = u at *
      cases hv : (false || !(us.take j).all nameB) with
      | true =>
        go_wp2_with fail
        go_round
        case rel => exact ⟨j + 1, by omega, by go_num, by rw [HT.out]; simp_all⟩
        case measure => simp [intOf]; omega
      | false =>
        go_wp2_with fail
        refine (rname u _ hzu.out rfl).mono ?_
        rintro e w' ⟨rfl, rfl⟩
        go_wp2_with fail
        go_round
        case rel => exact ⟨j + 1, by omega, by go_num, by rw [HT.out]; simp_all⟩
        case measure => simp [intOf]; omega
     ·have e1 : us.take j = us := List.take_of_length_le (by omega)
      have e2 : decide ((j : Int) < (us.length : Int)) = false := by simp; omega
      rw [e1]
      go_wp2_with fail
      go_ret
      exact ⟨by rw [← HR.out, Bool.not_and, ← HB0.out]; rfl, HB.out⟩
theorem rbad (q : OpW) {w : World} (h : q.In w) (hl : q.us.length ≤ 1000) {r : Bool} (hr : (!goodB q) = r) : Calls Tryz.prog 31 #[q.v.val] w fun e w' => e = .returned (.bool r) ∧ Below w.heap.size w w' := by
 obtain ⟨kind, user, id, st, pr, ttl, A, c, us⟩ := q
 obtain ⟨hs, hl', hz, hu, _⟩ := h
 simp only at hs hl' hz hu hl
 have hid : (decide (0 ≤ id) && decide (id < 256)) = idB id := by rw [Bool.eq_iff_iff]; simp only [idB, Bool.and_eq_true, decide_eq_true_eq]; omega
 unfold goodB at hr
 simp only at hr
 show Calls _ _ #[.agg #[.int .i64 kind, .string user, .int .i64 id, .int .i64 st, .int .i64 pr, .int .u64 ttl, .slice A us.length c]] _ _
 by_cases hk : 1 ≤ kind ∧ kind ≤ 9
 ·have h9 : kind = 1 ∨ kind = 2 ∨ kind = 3 ∨ kind = 4 ∨ kind = 5 ∨ kind = 6 ∨ kind = 7 ∨ kind = 8 ∨ kind = 9 := by omega
  rcases h9 with rfl | rfl | rfl | rfl | rfl | rfl | rfl | rfl | rfl
  ·refine rbad1 user id st pr ttl A c us hu ?_
   rw [if_pos rfl] at hr
   rw [← hr]
   cases nameB user with
   | false => rfl
   | true =>
     simp only [Bool.true_and]
     congr 1
     rw [Bool.eq_iff_iff]
     simp only [idB, Bool.and_eq_true, decide_eq_true_eq]
     omega
  ·exact rbad2 user id st pr ttl A c us hu (by rw [hid, ← hr]; rfl)
  ·exact rbad3 user id st pr ttl A c us hu (by rw [hid, ← hr]; rfl)
  ·exact rbad4 user id st pr ttl A c us hu (by rw [← hr]; rfl)
  ·exact rbad5 user id st pr ttl A c us hs hl hz (by rw [← hr]; rfl)
  ·exact rbad6 user id st pr ttl A c us hu (by rw [← hr]; rfl)
  ·exact rbad7 user id st pr ttl A c us hu (by rw [← hr]; rfl)
  ·exact rbad8 user id st pr ttl A c us (by rw [← hr]; rfl)
  ·exact rbad9 user id st pr ttl A c us (by rw [← hr]; rfl)
 ·rw [if_neg (by omega), if_neg (by omega), if_neg (by omega), if_neg (by omega), decide_eq_false (by omega)] at hr
  subst hr
  exact rbad0 user id st pr ttl A c us hk rfl
end Mod
end Go.Proofs.YtohdlnefgieenaaGreat
namespace Go.Proofs.YtohdlnefgieenaaGreat
open Go.RowKit Go.Shelf
attribute [local go_sem] Oper.semAt_some
namespace Mod
open Go.Law Feed Bk
theorem RTab.far {w : World} {base N t : Nat} {Q : Nat → Prop} {x : Cf} {a : Mo} {g0 i : Nat} {t' : TypeId} {cs : Array Value} (h : RTab w base Q N t x a) (hg : ¬ Q g0) (hi : Is w g0 t' cs) (h1 : 168 ≠ t') (h2 : 138 ≠ t') (h3 : 200 ≠ t') (u : Value) (h4 : UT ≠ some t' := by decide) : RTab (w.setCell ⟨g0, i, none⟩ u) base Q N t x a :=
 h.touch (Law.Touch.store (T := fun n => n = g0) w ⟨g0, i, none⟩ u rfl) (fun _ hx e => hg (e ▸ hx)) (Still.store hi h1 h2 h3 u h4)
structure RD (w W : World) (base : Nat) (Q Q' : Nat → Prop) (N t : Nat) (x : Cf) (g7 : Nat) (ob y : Array Value) (a : Mo) : Prop where
 tab : RTab W base Q' N t x a
 gone : Gone w Q W Q'
 op : Is W w.heap.size 37 ob
 res : Is W (w.heap.size + 1) 43 #[.int .i64 0, .slice none 0 0, .slice none 0 0, .bool false]
 rr : Is W g7 43 y
 nx : ¬ Q' w.heap.size
 nr : ¬ Q' (w.heap.size + 1)
 n7 : ¬ Q' g7
 l7 : w.heap.size + 1 < g7
def RPolled (w : World) (base : Nat) (Q : Nat → Prop) (N t : Nat) (x : Cf) (a' : Mo) (r : Rep) (e : Ending) (w' : World) : Prop :=
 ∃ A c A2 c2, e = .returned (.agg #[.int .i64 r.err, .slice A r.vals.length c, .slice A2 r.evs.length c2, .bool r.lost]) ∧ Seq w' w.heap.size w'.heap.size A (flatPr r.vals) ∧ Seq w' w.heap.size w'.heap.size A2 (flatE r.evs) ∧ ∃ Q', RTab w' base Q' N t x a' ∧ Gone w Q w' Q'
section
variable {w W W' : World} {base N N' t g7 bd : Nat} {Q Q' Q'' : Nat → Prop} {x : Cf} {ob y : Array Value} {a a' : Mo}
theorem RD.below (h : RD w W base Q Q' N t x g7 ob y a) (hb : Below W.heap.size W W') : RD w W' base Q Q' N t x g7 ob y a :=
 ⟨h.tab.below hb, h.gone.trans (Gone.of_below hb), h.op.below hb h.op.lt, h.res.below hb h.res.lt, h.rr.below hb h.rr.lt, h.nx, h.nr, h.n7, h.l7⟩
theorem RD.go (h : RD w W base Q Q' N t x g7 ob y a) (hT : RTab W' base Q'' N' t x a') (hG : Gone W Q' W' Q'') : RD w W' base Q Q'' N' t x g7 ob y a' :=
 ⟨hT, h.gone.trans hG, hG.is h.op h.nx, hG.is h.res h.nr, hG.is h.rr h.n7, fun hx => (hG.new _ hx).elim h.nx (fun h' => by have := h.op.lt; omega), fun hx => (hG.new _ hx).elim h.nr (fun h' => by have := h.res.lt; omega), fun hx => (hG.new _ hx).elim h.n7 (fun h' => by have := h.rr.lt; omega), h.l7⟩
theorem RD.put (h : RD w W base Q Q' N t x g7 ob y a) (i : Nat) (v : Value) {y' : Array Value} (hy : y.setIfInBounds i v = y') : RD w (W.setCell ⟨g7, i, none⟩ v) base Q Q' N t x g7 ob y' a :=
 have h7 := h.l7
 ⟨h.tab.far h.n7 h.rr (by decide) (by decide) (by decide) v, h.gone.far (by omega) h.rr (by decide) (by decide) (by decide) v, h.op.far (p := ⟨g7, i, none⟩) (by show _ ≠ g7; omega) v, h.res.far (p := ⟨g7, i, none⟩) (by show _ ≠ g7; omega) v, h.rr.set i v hy, h.nx, h.nr, h.n7, h.l7⟩
structure RWrap (w w3 w4 : World) (base : Nat) (Q Q' : Nat → Prop) (N t : Nat) (x : Cf) (a : Mo) (v0 v1 v2 v3 : Value) : Prop where
 box : Is w4 (w.heap.size + 1) 43 #[v0, v1, v2, v3]
 tab : RTab w4 base Q' N t x a
 gone : Gone w Q w4 Q'
 size : w4.heap.size = w3.heap.size
 seq : ∀ {lo : Nat} {A : Option Addr} {xs : List Value}, w.heap.size + 1 < lo → Seq w3 lo w3.heap.size A xs → Seq w4 lo w4.heap.size A xs
theorem rwrap {w3 : World} {z : Array Value} {y0 y1 y2 y3 : Value} (hz : z = #[y0, y1, y2, y3]) (hi : Is w3 (w.heap.size + 1) 43 z) (hT : RTab w3 base Q' N t x a) (hG : Gone w Q w3 Q') (hs : ¬ Q' (w.heap.size + 1)) (v0 v1 v2 v3 : Value) :
  RWrap w w3 ((((w3.setCell ⟨w.heap.size + 1, 0, none⟩ v0).setCell ⟨w.heap.size + 1, 1, none⟩ v1).setCell ⟨w.heap.size + 1, 2, none⟩ v2).setCell ⟨w.heap.size + 1, 3, none⟩ v3) base Q Q' N t x a v0 v1 v2 v3 := by
 subst hz
 have hg : w.heap.size ≤ w.heap.size + 1 := Nat.le_succ _
 have i1 : Is (w3.setCell ⟨w.heap.size + 1, 0, none⟩ v0) (w.heap.size + 1) 43 #[v0, y1, y2, y3] := hi.set 0 v0 rfl
 have i2 : Is ((w3.setCell ⟨w.heap.size + 1, 0, none⟩ v0).setCell ⟨w.heap.size + 1, 1, none⟩ v1) (w.heap.size + 1) 43 #[v0, v1, y2, y3] := i1.set 1 v1 rfl
 have i3 : Is (((w3.setCell ⟨w.heap.size + 1, 0, none⟩ v0).setCell ⟨w.heap.size + 1, 1, none⟩ v1).setCell ⟨w.heap.size + 1, 2, none⟩ v2) (w.heap.size + 1) 43 #[v0, v1, v2, y3] := i2.set 2 v2 rfl
 refine ⟨i3.set 3 v3 rfl, ?_, ?_, by simp, fun hlo hq => ?_⟩
 ·exact (((hT.far hs hi (by decide) (by decide) (by decide) v0).far hs i1 (by decide) (by decide) (by decide) v1).far hs i2 (by decide) (by decide) (by decide) v2).far hs i3 (by decide) (by decide) (by decide) v3
 ·exact (((hG.far hg hi (by decide) (by decide) (by decide) v0).far hg i1 (by decide) (by decide) (by decide) v1).far hg i2 (by decide) (by decide) (by decide) v2).far hg i3 (by decide) (by decide) (by decide) v3
 ·exact ((((hq.store (p := ⟨w.heap.size + 1, 0, none⟩) (.inl hlo) v0).store (p := ⟨w.heap.size + 1, 1, none⟩) (.inl hlo) v1).store (p := ⟨w.heap.size + 1, 2, none⟩) (.inl hlo) v2).store (p := ⟨w.heap.size + 1, 3, none⟩) (.inl hlo) v3).more (by simp)
theorem RTabV.drain {b f cb cf k who : Nat} {ab af : Array Value} {r : Nat → Nat} {Rk : Nat → Nat → Prop} {ps : Nat → List Pa} (h : RTabV w base Q N t b f cb cf x ab af r Rk ps a) (hk : k < a.n) (hR : RefAt W (Rk k) (r k) a.room (ps k) (upd (a.fd k).que who []) (upd (a.fd k).los who false)) (hW : RWent w (Rk k) (r k) W (Rk k)) :
  RTabV W base Q N t b f cb cf x ab af r Rk ps { a with fd := upd a.fd k (drained who (a.fd k)) } ∧ Gone w Q W Q := by
 have h1 := h.go hk (Nat.le_refl N) (s' := drained who (a.fd k)) hR hW ((h.core.inv k hk).wat rfl)
 have e1 : (fun y => Q y ∨ Rk k y) = Q := funext fun y => propext ⟨fun h' => h'.elim id ((h.sub k hk).2 y), .inl⟩
 have e2 : upd Rk k (Rk k) = Rk := funext fun i => by by_cases e : i = k; (subst e; rw [upd_same]); rw [upd_other _ _ e]
 have e3 : upd ps k (ps k) = ps := funext fun i => by by_cases e : i = k; (subst e; rw [upd_same]); rw [upd_other _ _ e]
 rw [e1, e2, e3] at h1
 exact h1
theorem RD.grown {e : TypeId} {size n : Nat} {v : Value} {xs : List Value} (h : RD w W base Q Q N t x g7 ob y a) (hq : ∀ z, Q z → z < w.heap.size) (ho : W.ownsRow (g7 + 1) e size v n xs) (hg : W.grownBy W' v.ownBlock) (h1 : e ≠ 168) (h2 : e ≠ 138) (h3 : e ≠ 200) (h4 : UT ≠ some e := by decide) : RD w W' base Q Q N t x g7 ob y a := by
 have ht : Law.Touch W W' (fun k => g7 < k) := Law.Touch.grown hg (fun k hk => (ho.lt k hk).1)
 have h7 := h.l7
 have hs : Still W W' := ⟨⟨Keeps.grown ho hg h1, Keeps.grown ho hg h2⟩, Keeps.grown ho hg h3, fun _ hu => Keeps.grown ho hg (fun e' => h4 (e' ▸ hu))⟩
 exact ⟨h.tab.touch ht (fun z hz hl => by have := hq z hz; omega) hs, ⟨h.gone.touch.trans ht (fun k hk => .inr (by omega)), h.gone.new, h.gone.still.trans hs⟩, ht.is h.op (by omega), ht.is h.res (by omega), ht.is h.rr (by omega), h.nx, h.nr, h.n7, h.l7⟩
set_option maxRecDepth 100000 in
set_option maxHeartbeats 4000000 in
theorem rdoW (kind : Int) (user : ByteArray) (id st pr ttl : Int) (A : Option Addr) (c : Nat) (us : List ByteArray) (h : RTab w base Q N t x a) (hN : N ≤ 990) (ho : a.Ok bd) (hbd : bd ≤ 380) (_hbw : base ≤ w.heap.size) {who : Nat} (hw : who < 8) (hin : OpW.In ⟨kind, user, id, st, pr, ttl, A, c, us⟩ w) (hg : goodB ⟨kind, user, id, st, pr, ttl, A, c, us⟩ = true) (hul : us.length ≤ 1000) (hk3 : kind = 1 ∨ kind = 2 ∨ kind = 3) :
  Calls Tryz.prog 13 #[.pointer (some ⟨t, 0, none⟩), .int .i64 (who : Int), .agg #[.int .i64 kind, .string user, .int .i64 id, .int .i64 st, .int .i64 pr, .int .u64 ttl, .slice A us.length c]] w (RPolled w base Q (N + 1) t x (a.ask who ⟨kind, user, id, st, pr, ttl, A, c, us⟩).1 (a.ask who ⟨kind, user, id, st, pr, ttl, A, c, us⟩).2) := by
 have HUL : Hid (us.length ≤ 1000) := by show _ ≤ _; exact hul
 have d8 : (kind == 8) = false := by rw [beq_eq_false_iff_ne]; omega
 have d4 : decide (kind < 4) = true := by simp; omega
 rw [show a.ask who ⟨kind, user, id, st, pr, ttl, A, c, us⟩ = ((a.write (OpW.v ⟨kind, user, id, st, pr, ttl, A, c, us⟩)).1, Rep.of (a.write (OpW.v ⟨kind, user, id, st, pr, ttl, A, c, us⟩)).2) from by unfold Mo.ask; rw [if_pos (by exact hk3)]]
 have dw0 : decide ((who : Int) < 0) = false := by simp
 have dw7 : decide ((7 : Int) < (who : Int)) = false := by simp; omega
 have bb := ((Below.refl w.heap.size w).alloc (Nat.le_refl _) (.cells #[.int .i64 kind, .string user, .int .i64 id, .int .i64 st, .int .i64 pr, .int .u64 ttl, .slice A us.length c] 37)).alloc (by simp) (.cells #[.int .i64 0, .slice none 0 0, .slice none 0 0, .bool false] 43)
 have HX1 : Hid (Is ((w.alloc (.cells #[.int .i64 kind, .string user, .int .i64 id, .int .i64 st, .int .i64 pr, .int .u64 ttl, .slice A us.length c] 37)).alloc (.cells #[.int .i64 0, .slice none 0 0, .slice none 0 0, .bool false] 43)) w.heap.size 37 #[.int .i64 kind, .string user, .int .i64 id, .int .i64 st, .int .i64 pr, .int .u64 ttl, .slice A us.length c]) := (Is.new w _ _ rfl).alloc _
 have HR1 : Hid (Is ((w.alloc (.cells #[.int .i64 kind, .string user, .int .i64 id, .int .i64 st, .int .i64 pr, .int .u64 ttl, .slice A us.length c] 37)).alloc (.cells #[.int .i64 0, .slice none 0 0, .slice none 0 0, .bool false] 43)) (w.heap.size + 1) 43 #[.int .i64 0, .slice none 0 0, .slice none 0 0, .bool false]) := Is.new _ _ _ (by simp)
 have H1 := Lib.hid (h.below bb)
 have G1 : Hid (Gone w Q _ Q) := Gone.of_below bb
 have IN1 := Lib.hid (hin.below bb)
 have hok := Lib.hid h.ok
 have HO := Lib.hid ho
 have HU := Lib.hid hin
 have hsz1 : w.heap.size + 2 ≤ ((w.alloc (.cells #[.int .i64 kind, .string user, .int .i64 id, .int .i64 st, .int .i64 pr, .int .u64 ttl, .slice A us.length c] 37)).alloc (.cells #[.int .i64 0, .slice none 0 0, .slice none 0 0, .bool false] 43)).heap.size := by simp
 have HBW1 := Lib.hid bb
 clear bb h ho hin
 go_enter Tryz.func13, Tryz.ntmps13
 go_wp2_with fail
 generalize ((w.alloc (.cells #[.int .i64 kind, .string user, .int .i64 id, .int .i64 st, .int .i64 pr, .int .u64 ttl, .slice A us.length c] 37)).alloc (.cells #[.int .i64 0, .slice none 0 0, .slice none 0 0, .bool false] 43)) = w1 at *
 refine (rbad ⟨kind, user, id, st, pr, ttl, A, c, us⟩ IN1.out (by first | omega | exact HUL.out) (r := false) (by rw [hg]; rfl)).mono ?_
 rintro e w2 ⟨rfl, b2⟩
 have HX2 := Lib.hid (HX1.out.below b2 HX1.out.lt)
 have HR2 := Lib.hid (HR1.out.below b2 HR1.out.lt)
 have H2 := Lib.hid (H1.out.below b2)
 have G2 := Lib.hid (G1.out.trans (Gone.of_below b2))
 have IN2 := Lib.hid (IN1.out.below b2)
 have hsz2 := Nat.le_trans hsz1 b2.size
 have HBW2 := Lib.hid (HBW1.out.trans (b2.mono HBW1.out.size))
 clear b2 HX1 HR1 H1 G1 IN1 hsz1 HBW1
 go_upto_region 4 with (fail)
 have H3 : Hid (RD w (w2.alloc (.cells #[.int .i64 0, .slice none 0 0, .slice none 0 0, .bool false] 43)) base Q Q N t x w2.heap.size #[.int .i64 kind, .string user, .int .i64 id, .int .i64 st, .int .i64 pr, .int .u64 ttl, .slice A us.length c] #[.int .i64 0, .slice none 0 0, .slice none 0 0, .bool false] a) := by
  have b3 := (Below.refl w2.heap.size w2).alloc (Nat.le_refl _) (.cells #[.int .i64 0, .slice none 0 0, .slice none 0 0, .bool false] 43)
  exact ⟨H2.out.below b3, G2.out.trans (Gone.of_below b3), HX2.out.below b3 HX2.out.lt, HR2.out.below b3 HR2.out.lt, Is.new w2 _ _ rfl, fun hx => by have := (hok.out _ hx).2; omega, fun hx => by have := (hok.out _ hx).2; omega, fun hx => by have := (H2.out.ok _ hx).2; omega, by omega⟩
 have HBW3 := Lib.hid (HBW2.out.alloc HBW2.out.size (.cells #[.int .i64 0, .slice none 0 0, .slice none 0 0, .bool false] 43))
 have IN3 := Lib.hid (IN2.out.below ((Below.refl w2.heap.size w2).alloc (Nat.le_refl _) (.cells #[.int .i64 0, .slice none 0 0, .slice none 0 0, .bool false] 43)))
 generalize w2.alloc (.cells #[.int .i64 0, .slice none 0 0, .slice none 0 0, .bool false] 43) = w3 at *
 generalize w2.heap.size = g7 at *
 clear HX2 HR2 H2 G2 IN2 HBW2
 obtain ⟨b, f, cb, cf, ab, af, r, Rk, ps, hV⟩ := H3.out.tab
 have HV := Lib.hid hV
 clear hV
 have x0 : w3.cell? ⟨w.heap.size, 0, none⟩ = some (.int .i64 kind) := H3.out.op.cell' rfl
 have x1 : w3.cell? ⟨w.heap.size, 1, none⟩ = some (.string user) := H3.out.op.cell' rfl
 have x2 : w3.cell? ⟨w.heap.size, 2, none⟩ = some (.int .i64 id) := H3.out.op.cell' rfl
 have x3 : w3.cell? ⟨w.heap.size, 3, none⟩ = some (.int .i64 st) := H3.out.op.cell' rfl
 have x4 : w3.cell? ⟨w.heap.size, 4, none⟩ = some (.int .i64 pr) := H3.out.op.cell' rfl
 have x5 : w3.cell? ⟨w.heap.size, 5, none⟩ = some (.int .u64 ttl) := H3.out.op.cell' rfl
 have x6 : w3.cell? ⟨w.heap.size, 6, none⟩ = some (.slice A us.length c) := H3.out.op.cell' rfl
 have lx := H3.out.op.lt
 go_wp2_with fail
 refine (rtake HV.out HO.out.seq).mono ?_
 rintro e w4 ⟨rfl, hT, hG⟩
 have H4 := Lib.hid (H3.out.go (hT.tab) hG)
 have HV4 := Lib.hid hT
 have c9 : w4.cell? ⟨t, 9, none⟩ = some (.bool a.closed) := hT.box.cell' rfl
 have lt4 := hT.box.lt
 clear hT hG H3 HV x0 x1 x2 x3 x4 x5 x6 lx
 have x0 : w4.cell? ⟨w.heap.size, 0, none⟩ = some (.int .i64 kind) := H4.out.op.cell' rfl
 have x1 : w4.cell? ⟨w.heap.size, 1, none⟩ = some (.string user) := H4.out.op.cell' rfl
 have x2 : w4.cell? ⟨w.heap.size, 2, none⟩ = some (.int .i64 id) := H4.out.op.cell' rfl
 have x3 : w4.cell? ⟨w.heap.size, 3, none⟩ = some (.int .i64 st) := H4.out.op.cell' rfl
 have x4 : w4.cell? ⟨w.heap.size, 4, none⟩ = some (.int .i64 pr) := H4.out.op.cell' rfl
 have x5 : w4.cell? ⟨w.heap.size, 5, none⟩ = some (.int .u64 ttl) := H4.out.op.cell' rfl
 have x6 : w4.cell? ⟨w.heap.size, 6, none⟩ = some (.slice A us.length c) := H4.out.op.cell' rfl
 have lx := H4.out.op.lt
 cases hcl : a.closed with
 | true =>
   have HE : Hid (a.write (OpW.v ⟨kind, user, id, st, pr, ttl, A, c, us⟩) = (a.take, 5)) := by show _ = _; unfold Mo.write; rw [if_pos (by rw [hcl])]
   rw [HE.out]
   rw [hcl] at c9
   have lr := H4.out.res.lt
   have r0_ := H4.out.res.cell' (i := 0) rfl
   have r1_ := H4.out.res.cell' (i := 1) rfl
   have r2_ := H4.out.res.cell' (i := 2) rfl
   have r3_ := H4.out.res.cell' (i := 3) rfl
   have q0_ := H4.out.res.frozen 0
   have q1_ := H4.out.res.frozen 1
   have q2_ := H4.out.res.frozen 2
   have q3_ := H4.out.res.frozen 3
   go_wp2_with fail
   have HW := rwrap rfl H4.out.res H4.out.tab H4.out.gone H4.out.nr (.int .i64 5) (.slice none 0 0) (.slice none 0 0) (.bool false)
   generalize (((w4.setCell ⟨w.heap.size + 1, 0, none⟩ (.int .i64 5)).setCell ⟨w.heap.size + 1, 1, none⟩ (.slice none 0 0)).setCell ⟨w.heap.size + 1, 2, none⟩ (.slice none 0 0)).setCell ⟨w.heap.size + 1, 3, none⟩ (.bool false) = wz at *
   have n0 := HW.box.cell' (i := 0) rfl
   have n1 := HW.box.cell' (i := 1) rfl
   have n2 := HW.box.cell' (i := 2) rfl
   have n3 := HW.box.cell' (i := 3) rfl
   refine bodyPost_ret (v := .agg #[.int .i64 5, .slice none 0 0, .slice none 0 0, .bool false]) (by simp [results, Tryz.results13, go_sem, n0, n1, n2, n3]) rfl ?_
   exact ⟨none, 0, none, 0, by first | rfl | (rw [HE.out]; rfl), fun h => absurd rfl h, fun h => absurd rfl h, Q, (by first | exact HW.tab.more (Nat.le_succ N) | (rw [HE.out]; exact HW.tab.more (Nat.le_succ N))), HW.gone⟩
 | false =>
   obtain ⟨k, hk⟩ : ∃ k, str user a.n = k := ⟨_, rfl⟩
   have hlt : k < a.n := hk ▸ str_lt user HO.out.n1
   have HK := Lib.hid hk
   have hn8 := HO.out.n8
   clear hk
   have HE : Hid (a.write (OpW.v ⟨kind, user, id, st, pr, ttl, A, c, us⟩) = (a.take.become k (wrB (OpW.v ⟨kind, user, id, st, pr, ttl, A, c, us⟩) a.now a.most (a.bk k)) (wrC (OpW.v ⟨kind, user, id, st, pr, ttl, A, c, us⟩) a.now a.most (a.bk k)) (Door.sat a.seq 1), wrE (OpW.v ⟨kind, user, id, st, pr, ttl, A, c, us⟩) a.now a.most (a.bk k))) := by show _ = _; unfold Mo.write; rw [if_neg (by rw [hcl]; decide), show str (OpW.v ⟨kind, user, id, st, pr, ttl, A, c, us⟩).user a.n = k from HK.out]
   rw [HE.out]
   rw [hcl] at c9
   obtain ⟨A0, c0_, hab, hus⟩ := HV4.out.core.bat k hlt
   have HUS : Hid (UsersAt w4 A0 (a.bk k)) := hus
   have hlb : (a.bk k).length ≤ 900 := by have := (HO.out.fit k hlt).len; omega
   have hls : (sesK user (a.bk k)).length ≤ 899 := by have := (HO.out.fit k hlt).of user; omega
   have HBK := Lib.hid (HO.out.fit k hlt).book
   have hcl1 : (wrC (OpW.v ⟨kind, user, id, st, pr, ttl, A, c, us⟩) a.now a.most (a.bk k)).length ≤ 1 := tells_le _ _ _ _
   have HQU : Hid (∀ i, i < 8 → ((a.fd k).que i).length + (wrC (OpW.v ⟨kind, user, id, st, pr, ttl, A, c, us⟩) a.now a.most (a.bk k)).length ≤ 500) := fun i hi => by have := HO.out.que k hlt i hi; omega
   have HTU : Hid (Door.U ttl) := HU.out.ttl
   have HKS : Hid (∀ W', Below w4.heap.size w4 W' → W'.cell? ⟨w.heap.size, 1, none⟩ = some (.string user) ∧ W'.cell? ⟨t, 0, none⟩ = some (.int .i64 (a.n : Int))) := fun W' hb => ⟨(hb.cell (p := ⟨w.heap.size, 1, none⟩) lx).trans x1, HV4.out.c hb rfl⟩
   have HKT : Hid (∀ W', Below w4.heap.size w4 W' → W'.cell? ⟨t, 10, none⟩ = some (.slice (some ⟨b, 0, none⟩) a.n cb) ∧ W'.cell? ⟨b, k, none⟩ = some (.slice A0 (a.bk k).length c0_) ∧ W'.cell? ⟨t, 7, none⟩ = some (.int .u64 a.now) ∧ W'.cell? ⟨t, 1, none⟩ = some (.int .i64 a.most) ∧ W'.cell? ⟨w.heap.size, 0, none⟩ = some (.int .i64 kind) ∧ W'.cell? ⟨w.heap.size, 1, none⟩ = some (.string user) ∧ W'.cell? ⟨w.heap.size, 2, none⟩ = some (.int .i64 id) ∧ W'.cell? ⟨w.heap.size, 3, none⟩ = some (.int .i64 st) ∧ W'.cell? ⟨w.heap.size, 4, none⟩ = some (.int .i64 pr) ∧ W'.cell? ⟨w.heap.size, 5, none⟩ = some (.int .u64 ttl) ∧ W'.cell? ⟨w.heap.size, 6, none⟩ = some (.slice A us.length c)) := fun W' hb => ⟨HV4.out.c hb rfl, HV4.out.cu hb hab, HV4.out.c hb rfl, HV4.out.c hb rfl, (hb.cell (p := ⟨w.heap.size, 0, none⟩) lx).trans x0, (hb.cell (p := ⟨w.heap.size, 1, none⟩) lx).trans x1, (hb.cell (p := ⟨w.heap.size, 2, none⟩) lx).trans x2, (hb.cell (p := ⟨w.heap.size, 3, none⟩) lx).trans x3, (hb.cell (p := ⟨w.heap.size, 4, none⟩) lx).trans x4, (hb.cell (p := ⟨w.heap.size, 5, none⟩) lx).trans x5, (hb.cell (p := ⟨w.heap.size, 6, none⟩) lx).trans x6⟩
   have bd1 : Below w4.heap.size w4 w4.drew := Law.below_drewN (Below.refl _ _) 1
   have HD1 := Lib.hid bd1
   clear hus hab bd1
   go_wp2_with fail
   refine wp_region_held_drew (S := fun w' => w'.cell? ⟨w.heap.size, 1, none⟩ = some (.string user) ∧ w'.cell? ⟨t, 0, none⟩ = some (.int .i64 (a.n : Int))) (by kernel_rfl) (HKS.out _ HD1.out) (fun hS0 => ?_)
   refine Go.Law.tk 0 ⟨some 82, .fieldAddr 37 (.tmp 5) 1, _, _, _, _⟩ (v := .pointer (some ⟨w.heap.size, 1, none⟩)) hS0 ?_ ?_
   ·intro w' hSw
    go_simp
   try simp only [Go.Law.pz]
   refine Go.Law.tk 1 ⟨some 83, .load 9 (.tmp 82), _, _, _, _⟩ (v := .string user) hS0 ?_ ?_
   ·intro w' hSw
    obtain ⟨s0, s1⟩ := hSw
    go_simp
   try simp only [Go.Law.pz]
   refine Go.Law.tk 2 ⟨some 84, .move (.tmp 0), _, _, _, _⟩ (v := .pointer (some ⟨t, 0, none⟩)) hS0 ?_ ?_
   ·intro w' hSw
    go_simp
   try simp only [Go.Law.pz]
   refine Go.Law.tk 3 ⟨some 85, .nilCheck (.tmp 84), _, _, _, _⟩ (v := .pointer (some ⟨t, 0, none⟩)) hS0 ?_ ?_
   ·intro w' hSw
    go_simp
   try simp only [Go.Law.pz]
   refine Go.Law.tk 4 ⟨some 86, .fieldAddr 55 (.tmp 85) 0, _, _, _, _⟩ (v := .pointer (some ⟨t, 0, none⟩)) hS0 ?_ ?_
   ·intro w' hSw
    go_simp
   try simp only [Go.Law.pz]
   refine Go.Law.tk 5 ⟨some 87, .fieldAddr 24 (.tmp 86) 0, _, _, _, _⟩ (v := .pointer (some ⟨t, 0, none⟩)) hS0 ?_ ?_
   ·intro w' hSw
    go_simp
   try simp only [Go.Law.pz]
   refine Go.Law.tk 6 ⟨some 88, .load 3 (.tmp 87), _, _, _, _⟩ (v := .int .i64 (a.n : Int)) hS0 ?_ ?_
   ·intro w' hSw
    obtain ⟨s0, s1⟩ := hSw
    go_simp
   try simp only [Go.Law.pz]
   refine wpAnyH_ready (rs := [7]) (by kernel_rfl) (by simp) ?_
   refine AllReadyH.cons (o := ⟨some 89, .call { callee := .value (.func 34), args := #[.tmp 83, .tmp 88], argTypes := _ }, _, _, _, _⟩) rfl (fun K hK => ?_) AllReadyH.nil
   go_simp
   refine Calls.mono (rstripe user a.n _ HU.out.user hn8 HK.out) ?_
   rintro e wq ⟨rfl, rfl⟩
   go_wp2_with fail
   refine hK.out _ _ (HKS.out _ HD1.out) (fun hS1 => ?_)
   clear hK K
   try simp only [Go.Law.pz]
   refine Go.Law.tk 8 ⟨some 13, .assign (.tmp 89), _, _, _, _⟩ (v := .int .i64 (k : Int)) hS1 ?_ ?_
   ·intro w' hSw
    go_simp
   try simp only [Go.Law.pz]
   refine wpAnyH_done (by kernel_rfl) ?_ _
   clear hS0 hS1
   have HD2 : Hid (Below w4.heap.size w4 w4.drew.drew) := Law.below_drewN (Law.below_drewN (Below.refl _ _) 1) 1
   clear HKS c9 x0 x1 x2 x3 x4 x5 x6 lx
   go_wp2_with fail
   refine wp_region_held_drew (S := fun w' => w'.cell? ⟨t, 10, none⟩ = some (.slice (some ⟨b, 0, none⟩) a.n cb) ∧ w'.cell? ⟨b, k, none⟩ = some (.slice A0 (a.bk k).length c0_) ∧ w'.cell? ⟨t, 7, none⟩ = some (.int .u64 a.now) ∧ w'.cell? ⟨t, 1, none⟩ = some (.int .i64 a.most) ∧ w'.cell? ⟨w.heap.size, 0, none⟩ = some (.int .i64 kind) ∧ w'.cell? ⟨w.heap.size, 1, none⟩ = some (.string user) ∧ w'.cell? ⟨w.heap.size, 2, none⟩ = some (.int .i64 id) ∧ w'.cell? ⟨w.heap.size, 3, none⟩ = some (.int .i64 st) ∧ w'.cell? ⟨w.heap.size, 4, none⟩ = some (.int .i64 pr) ∧ w'.cell? ⟨w.heap.size, 5, none⟩ = some (.int .u64 ttl) ∧ w'.cell? ⟨w.heap.size, 6, none⟩ = some (.slice A us.length c)) (by kernel_rfl) (HKT.out _ HD2.out) (fun hS0 => ?_)
   refine Go.Law.tk 0 ⟨some 91, .move (.tmp 0), _, _, _, _⟩ (v := .pointer (some ⟨t, 0, none⟩)) hS0 ?_ ?_
   ·intro w' hSw
    go_simp
   try simp only [Go.Law.pz]
   refine Go.Law.tk 1 ⟨some 92, .nilCheck (.tmp 91), _, _, _, _⟩ (v := .pointer (some ⟨t, 0, none⟩)) hS0 ?_ ?_
   ·intro w' hSw
    go_simp
   try simp only [Go.Law.pz]
   refine Go.Law.tk 2 ⟨some 93, .fieldAddr 55 (.tmp 92) 2, _, _, _, _⟩ (v := .pointer (some ⟨t, 10, none⟩)) hS0 ?_ ?_
   ·intro w' hSw
    go_simp
   try simp only [Go.Law.pz]
   refine Go.Law.tk 3 ⟨some 94, .load 52 (.tmp 93), _, _, _, _⟩ (v := .slice (some ⟨b, 0, none⟩) a.n cb) hS0 ?_ ?_
   ·intro w' hSw
    obtain ⟨s0, s1, s2, s3, s4, s5, s6, s7, s8, s9, s10⟩ := hSw
    go_simp
   try simp only [Go.Law.pz]
   refine Go.Law.tk 4 ⟨some 95, .move (.tmp 13), _, _, _, _⟩ (v := .int .i64 (k : Int)) hS0 ?_ ?_
   ·intro w' hSw
    go_simp
   try simp only [Go.Law.pz]
   refine Go.Law.tk 5 ⟨some 96, .indexAddr 52 (.tmp 94) (.tmp 95), _, _, _, _⟩ (v := .pointer (some ⟨b, k, none⟩)) hS0 ?_ ?_
   ·intro w' hSw
    go_simp; (try (intro h8; omega))
   try simp only [Go.Law.pz]
   refine Go.Law.tk 6 ⟨some 97, .load 84 (.tmp 96), _, _, _, _⟩ (v := .slice A0 (a.bk k).length c0_) hS0 ?_ ?_
   ·intro w' hSw
    obtain ⟨s0, s1, s2, s3, s4, s5, s6, s7, s8, s9, s10⟩ := hSw
    go_simp
   try simp only [Go.Law.pz]
   refine Go.Law.tk 7 ⟨some 98, .load 37 (.tmp 5), _, _, _, _⟩ (v := .agg #[.int .i64 kind, .string user, .int .i64 id, .int .i64 st, .int .i64 pr, .int .u64 ttl, .slice A us.length c]) hS0 ?_ ?_
   ·intro w' hSw
    obtain ⟨s0, s1, s2, s3, s4, s5, s6, s7, s8, s9, s10⟩ := hSw
    go_simp
   try simp only [Go.Law.pz]
   refine Go.Law.tk 8 ⟨some 99, .move (.tmp 0), _, _, _, _⟩ (v := .pointer (some ⟨t, 0, none⟩)) hS0 ?_ ?_
   ·intro w' hSw
    go_simp
   try simp only [Go.Law.pz]
   refine Go.Law.tk 9 ⟨some 100, .nilCheck (.tmp 99), _, _, _, _⟩ (v := .pointer (some ⟨t, 0, none⟩)) hS0 ?_ ?_
   ·intro w' hSw
    go_simp
   try simp only [Go.Law.pz]
   refine Go.Law.tk 10 ⟨some 101, .fieldAddr 55 (.tmp 100) 1, _, _, _, _⟩ (v := .pointer (some ⟨t, 7, none⟩)) hS0 ?_ ?_
   ·intro w' hSw
    go_simp
   try simp only [Go.Law.pz]
   refine Go.Law.tk 11 ⟨some 102, .fieldAddr 50 (.tmp 101) 0, _, _, _, _⟩ (v := .pointer (some ⟨t, 7, none⟩)) hS0 ?_ ?_
   ·intro w' hSw
    go_simp
   try simp only [Go.Law.pz]
   refine Go.Law.tk 12 ⟨some 103, .load 22 (.tmp 102), _, _, _, _⟩ (v := .int .u64 a.now) hS0 ?_ ?_
   ·intro w' hSw
    obtain ⟨s0, s1, s2, s3, s4, s5, s6, s7, s8, s9, s10⟩ := hSw
    go_simp
   try simp only [Go.Law.pz]
   refine Go.Law.tk 13 ⟨some 104, .move (.tmp 0), _, _, _, _⟩ (v := .pointer (some ⟨t, 0, none⟩)) hS0 ?_ ?_
   ·intro w' hSw
    go_simp
   try simp only [Go.Law.pz]
   refine Go.Law.tk 14 ⟨some 105, .nilCheck (.tmp 104), _, _, _, _⟩ (v := .pointer (some ⟨t, 0, none⟩)) hS0 ?_ ?_
   ·intro w' hSw
    go_simp
   try simp only [Go.Law.pz]
   refine Go.Law.tk 15 ⟨some 106, .fieldAddr 55 (.tmp 105) 0, _, _, _, _⟩ (v := .pointer (some ⟨t, 0, none⟩)) hS0 ?_ ?_
   ·intro w' hSw
    go_simp
   try simp only [Go.Law.pz]
   refine Go.Law.tk 16 ⟨some 107, .fieldAddr 24 (.tmp 106) 1, _, _, _, _⟩ (v := .pointer (some ⟨t, 1, none⟩)) hS0 ?_ ?_
   ·intro w' hSw
    go_simp
   try simp only [Go.Law.pz]
   refine Go.Law.tk 17 ⟨some 108, .load 3 (.tmp 107), _, _, _, _⟩ (v := .int .i64 a.most) hS0 ?_ ?_
   ·intro w' hSw
    obtain ⟨s0, s1, s2, s3, s4, s5, s6, s7, s8, s9, s10⟩ := hSw
    go_simp
   try simp only [Go.Law.pz]
   refine wpAnyH_ready (rs := [18]) (by kernel_rfl) (by simp) ?_
   refine AllReadyH.cons (o := ⟨some 109, .call { callee := .value (.func 35), args := #[.tmp 97, .tmp 98, .tmp 103, .tmp 108], argTypes := _ }, _, _, _, _⟩) rfl (fun K hK => ?_) AllReadyH.nil
   go_simp
   refine Calls.mono (refWrite (OpW.v ⟨kind, user, id, st, pr, ttl, A, c, us⟩) a.now a.most HO.out.now HTU.out (HUS.out.now HD2.out) HBK.out hls hlb) ?_
   rintro e w5 ⟨A1, c1, A2, c2, rfl, u5, k5, b5⟩
   have HB5 := Lib.hid (HD2.out.trans (b5.mono HD2.out.size))
   have HU5 := Lib.hid u5
   have HL5 := Lib.hid k5
   go_wp2_with fail
   refine hK.out _ _ (HKT.out _ (HD2.out.trans (b5.mono HD2.out.size))) (fun hS2 => ?_)
   clear hK K
   try simp only [Go.Law.pz]
   refine Go.Law.tk 19 ⟨some 90, .move (.tmp 109), _, _, _, _⟩ (v := .tuple #[.slice A1 (wrB (OpW.v ⟨kind, user, id, st, pr, ttl, A, c, us⟩) a.now a.most (a.bk k)).length c1, .slice A2 (wrC (OpW.v ⟨kind, user, id, st, pr, ttl, A, c, us⟩) a.now a.most (a.bk k)).length c2, .int .i64 (wrE (OpW.v ⟨kind, user, id, st, pr, ttl, A, c, us⟩) a.now a.most (a.bk k))]) hS2 ?_ ?_
   ·intro w' hSw
    go_simp
   try simp only [Go.Law.pz]
   refine Go.Law.tk 20 ⟨some 110, .extract (.tmp 90) 0, _, _, _, _⟩ (v := .slice A1 (wrB (OpW.v ⟨kind, user, id, st, pr, ttl, A, c, us⟩) a.now a.most (a.bk k)).length c1) hS2 ?_ ?_
   ·intro w' hSw
    go_simp
   try simp only [Go.Law.pz]
   refine Go.Law.tk 21 ⟨some 111, .extract (.tmp 90) 1, _, _, _, _⟩ (v := .slice A2 (wrC (OpW.v ⟨kind, user, id, st, pr, ttl, A, c, us⟩) a.now a.most (a.bk k)).length c2) hS2 ?_ ?_
   ·intro w' hSw
    go_simp
   try simp only [Go.Law.pz]
   refine Go.Law.tk 22 ⟨some 112, .extract (.tmp 90) 2, _, _, _, _⟩ (v := .int .i64 (wrE (OpW.v ⟨kind, user, id, st, pr, ttl, A, c, us⟩) a.now a.most (a.bk k))) hS2 ?_ ?_
   ·intro w' hSw
    go_simp
   try simp only [Go.Law.pz]
   refine Go.Law.tk 23 ⟨some 14, .assign (.tmp 110), _, _, _, _⟩ (v := .slice A1 (wrB (OpW.v ⟨kind, user, id, st, pr, ttl, A, c, us⟩) a.now a.most (a.bk k)).length c1) hS2 ?_ ?_
   ·intro w' hSw
    go_simp
   try simp only [Go.Law.pz]
   refine Go.Law.tk 24 ⟨some 15, .assign (.tmp 111), _, _, _, _⟩ (v := .slice A2 (wrC (OpW.v ⟨kind, user, id, st, pr, ttl, A, c, us⟩) a.now a.most (a.bk k)).length c2) hS2 ?_ ?_
   ·intro w' hSw
    go_simp
   try simp only [Go.Law.pz]
   refine Go.Law.tk 25 ⟨some 16, .assign (.tmp 112), _, _, _, _⟩ (v := .int .i64 (wrE (OpW.v ⟨kind, user, id, st, pr, ttl, A, c, us⟩) a.now a.most (a.bk k))) hS2 ?_ ?_
   ·intro w' hSw
    go_simp
   try simp only [Go.Law.pz]
   refine wpAnyH_done (by kernel_rfl) ?_ _
   have H5 := Lib.hid (H4.out.below HB5.out)
   have HV5 := Lib.hid (HV4.out.below HB5.out)
   clear hS0 hS2 u5 k5 b5 HKT HUS H4 HV4 HD1 HD2 HB5 lt4
   generalize wrB (OpW.v ⟨kind, user, id, st, pr, ttl, A, c, us⟩) a.now a.most (a.bk k) = nb at *
   generalize wrC (OpW.v ⟨kind, user, id, st, pr, ttl, A, c, us⟩) a.now a.most (a.bk k) = nc at *
   generalize wrE (OpW.v ⟨kind, user, id, st, pr, ttl, A, c, us⟩) a.now a.most (a.bk k) = ne at *
   have e10 : w5.cell? ⟨t, 10, none⟩ = some (.slice (some ⟨b, 0, none⟩) a.n cb) := HV5.out.box.cell' rfl
   have lt5 := HV5.out.box.lt
   have lb5 := HV5.out.core.brow.lt
   obtain ⟨A3, cc3, hab3, _⟩ := HV5.out.core.bat k hlt
   have cb3 : w5.cell? ⟨b, k, none⟩ = _ := HV5.out.core.brow.cell' hab3
   have fb3 := HV5.out.core.brow.frozen k
   have hput := HV5.out.put (c := c1) hlt HU5.out
   have H6 := Lib.hid (H5.out.go hput.1.tab hput.2)
   have HV6 := Lib.hid hput.1
   have HL6 := Lib.hid (HL5.out.keeps (Keeps.store (i := k) HV5.out.core.brow (by decide) (.slice A1 nb.length c1)))
   clear hput hab3 H5 HL5 HU5
   go_upto_region 21 with (fail)
   generalize w5.setCell ⟨b, k, none⟩ (.slice A1 nb.length c1) = w6 at *
   clear HV5 e10 lt5 lb5 cb3 fb3
   have e11 : w6.cell? ⟨t, 11, none⟩ = some (.slice (some ⟨f, 0, none⟩) a.n cf) := HV6.out.box.cell' rfl
   have lt6 := HV6.out.box.lt
   have lf6 := HV6.out.core.frow.lt
   have ef6 : w6.cell? ⟨f, k, none⟩ = some (.pointer (some ⟨r k, 0, none⟩)) := HV6.out.core.frow.cell' (HV6.out.core.fat k hlt)
   go_wp2_with fail
   refine (rtell HV6.out hlt (by omega) (Door.sat a.seq 1) HL6.out HQU.out).mono ?_
   rintro e w7 ⟨rfl, Q', Rk', ps', hT7, hG7⟩
   have H7 : Hid (RD w w7 base Q Q' N t x g7 #[.int .i64 kind, .string user, .int .i64 id, .int .i64 st, .int .i64 pr, .int .u64 ttl, .slice A us.length c] #[.int .i64 0, .slice none 0 0, .slice none 0 0, .bool false] (a.take.become k nb nc (Door.sat a.seq 1))) := H6.out.go hT7.tab hG7
   clear hT7 hG7 H6 HV6 HL6 e11 lt6 lf6 ef6
   have lr := H7.out.res.lt
   have r0_ := H7.out.res.cell' (i := 0) rfl
   have r1_ := H7.out.res.cell' (i := 1) rfl
   have r2_ := H7.out.res.cell' (i := 2) rfl
   have r3_ := H7.out.res.cell' (i := 3) rfl
   have q0_ := H7.out.res.frozen 0
   have q1_ := H7.out.res.frozen 1
   have q2_ := H7.out.res.frozen 2
   have q3_ := H7.out.res.frozen 3
   go_wp2_with fail
   have HW := rwrap rfl H7.out.res H7.out.tab H7.out.gone H7.out.nr (.int .i64 ne) (.slice none 0 0) (.slice none 0 0) (.bool false)
   generalize (((w7.setCell ⟨w.heap.size + 1, 0, none⟩ (.int .i64 ne)).setCell ⟨w.heap.size + 1, 1, none⟩ (.slice none 0 0)).setCell ⟨w.heap.size + 1, 2, none⟩ (.slice none 0 0)).setCell ⟨w.heap.size + 1, 3, none⟩ (.bool false) = wz at *
   have n0 := HW.box.cell' (i := 0) rfl
   have n1 := HW.box.cell' (i := 1) rfl
   have n2 := HW.box.cell' (i := 2) rfl
   have n3 := HW.box.cell' (i := 3) rfl
   refine bodyPost_ret (v := .agg #[.int .i64 ne, .slice none 0 0, .slice none 0 0, .bool false]) (by simp [results, Tryz.results13, go_sem, n0, n1, n2, n3]) rfl ?_
   exact ⟨none, 0, none, 0, by first | rfl | (rw [HE.out]; rfl), fun h => absurd rfl h, fun h => absurd rfl h, Q', (by first | exact HW.tab.more (Nat.le_succ N) | (rw [HE.out]; exact HW.tab.more (Nat.le_succ N))), HW.gone⟩
set_option maxRecDepth 100000 in
set_option maxHeartbeats 4000000 in
theorem rdoShut (kind : Int) (user : ByteArray) (id st pr ttl : Int) (A : Option Addr) (c : Nat) (us : List ByteArray) (h : RTab w base Q N t x a) (_hN : N ≤ 990) (ho : a.Ok bd) (_hbd : bd ≤ 380) (_hbw : base ≤ w.heap.size) {who : Nat} (hw : who < 8) (hin : OpW.In ⟨kind, user, id, st, pr, ttl, A, c, us⟩ w) (hg : goodB ⟨kind, user, id, st, pr, ttl, A, c, us⟩ = true) (hul : us.length ≤ 1000) (hk3 : kind = 4 ∨ kind = 5 ∨ kind = 6 ∨ kind = 7 ∨ kind = 9) (hcl : a.closed = true) :
  Calls Tryz.prog 13 #[.pointer (some ⟨t, 0, none⟩), .int .i64 (who : Int), .agg #[.int .i64 kind, .string user, .int .i64 id, .int .i64 st, .int .i64 pr, .int .u64 ttl, .slice A us.length c]] w (RPolled w base Q (N + 1) t x (a.ask who ⟨kind, user, id, st, pr, ttl, A, c, us⟩).1 (a.ask who ⟨kind, user, id, st, pr, ttl, A, c, us⟩).2) := by
 have HUL : Hid (us.length ≤ 1000) := by show _ ≤ _; exact hul
 have d8 : (kind == 8) = false := by rw [beq_eq_false_iff_ne]; omega
 have d4 : decide (kind < 4) = false := by simp; omega
 rw [show a.ask who ⟨kind, user, id, st, pr, ttl, A, c, us⟩ = (a, Rep.of 5) from by unfold Mo.ask; rw [if_neg (by show ¬ (kind = 1 ∨ kind = 2 ∨ kind = 3); omega), if_neg (by show ¬ kind = 8; omega), if_pos hcl]]
 have dw0 : decide ((who : Int) < 0) = false := by simp
 have dw7 : decide ((7 : Int) < (who : Int)) = false := by simp; omega
 have bb := ((Below.refl w.heap.size w).alloc (Nat.le_refl _) (.cells #[.int .i64 kind, .string user, .int .i64 id, .int .i64 st, .int .i64 pr, .int .u64 ttl, .slice A us.length c] 37)).alloc (by simp) (.cells #[.int .i64 0, .slice none 0 0, .slice none 0 0, .bool false] 43)
 have HX1 : Hid (Is ((w.alloc (.cells #[.int .i64 kind, .string user, .int .i64 id, .int .i64 st, .int .i64 pr, .int .u64 ttl, .slice A us.length c] 37)).alloc (.cells #[.int .i64 0, .slice none 0 0, .slice none 0 0, .bool false] 43)) w.heap.size 37 #[.int .i64 kind, .string user, .int .i64 id, .int .i64 st, .int .i64 pr, .int .u64 ttl, .slice A us.length c]) := (Is.new w _ _ rfl).alloc _
 have HR1 : Hid (Is ((w.alloc (.cells #[.int .i64 kind, .string user, .int .i64 id, .int .i64 st, .int .i64 pr, .int .u64 ttl, .slice A us.length c] 37)).alloc (.cells #[.int .i64 0, .slice none 0 0, .slice none 0 0, .bool false] 43)) (w.heap.size + 1) 43 #[.int .i64 0, .slice none 0 0, .slice none 0 0, .bool false]) := Is.new _ _ _ (by simp)
 have H1 := Lib.hid (h.below bb)
 have G1 : Hid (Gone w Q _ Q) := Gone.of_below bb
 have IN1 := Lib.hid (hin.below bb)
 have hok := Lib.hid h.ok
 have HO := Lib.hid ho
 have HU := Lib.hid hin
 have hsz1 : w.heap.size + 2 ≤ ((w.alloc (.cells #[.int .i64 kind, .string user, .int .i64 id, .int .i64 st, .int .i64 pr, .int .u64 ttl, .slice A us.length c] 37)).alloc (.cells #[.int .i64 0, .slice none 0 0, .slice none 0 0, .bool false] 43)).heap.size := by simp
 have HBW1 := Lib.hid bb
 clear bb h ho hin
 go_enter Tryz.func13, Tryz.ntmps13
 go_wp2_with fail
 generalize ((w.alloc (.cells #[.int .i64 kind, .string user, .int .i64 id, .int .i64 st, .int .i64 pr, .int .u64 ttl, .slice A us.length c] 37)).alloc (.cells #[.int .i64 0, .slice none 0 0, .slice none 0 0, .bool false] 43)) = w1 at *
 refine (rbad ⟨kind, user, id, st, pr, ttl, A, c, us⟩ IN1.out (by first | omega | exact HUL.out) (r := false) (by rw [hg]; rfl)).mono ?_
 rintro e w2 ⟨rfl, b2⟩
 have HX2 := Lib.hid (HX1.out.below b2 HX1.out.lt)
 have HR2 := Lib.hid (HR1.out.below b2 HR1.out.lt)
 have H2 := Lib.hid (H1.out.below b2)
 have G2 := Lib.hid (G1.out.trans (Gone.of_below b2))
 have IN2 := Lib.hid (IN1.out.below b2)
 have hsz2 := Nat.le_trans hsz1 b2.size
 have HBW2 := Lib.hid (HBW1.out.trans (b2.mono HBW1.out.size))
 clear b2 HX1 HR1 H1 G1 IN1 hsz1 HBW1
 go_upto_region 4 with (fail)
 have H3 : Hid (RD w (w2.alloc (.cells #[.int .i64 0, .slice none 0 0, .slice none 0 0, .bool false] 43)) base Q Q N t x w2.heap.size #[.int .i64 kind, .string user, .int .i64 id, .int .i64 st, .int .i64 pr, .int .u64 ttl, .slice A us.length c] #[.int .i64 0, .slice none 0 0, .slice none 0 0, .bool false] a) := by
  have b3 := (Below.refl w2.heap.size w2).alloc (Nat.le_refl _) (.cells #[.int .i64 0, .slice none 0 0, .slice none 0 0, .bool false] 43)
  exact ⟨H2.out.below b3, G2.out.trans (Gone.of_below b3), HX2.out.below b3 HX2.out.lt, HR2.out.below b3 HR2.out.lt, Is.new w2 _ _ rfl, fun hx => by have := (hok.out _ hx).2; omega, fun hx => by have := (hok.out _ hx).2; omega, fun hx => by have := (H2.out.ok _ hx).2; omega, by omega⟩
 have HBW3 := Lib.hid (HBW2.out.alloc HBW2.out.size (.cells #[.int .i64 0, .slice none 0 0, .slice none 0 0, .bool false] 43))
 have IN3 := Lib.hid (IN2.out.below ((Below.refl w2.heap.size w2).alloc (Nat.le_refl _) (.cells #[.int .i64 0, .slice none 0 0, .slice none 0 0, .bool false] 43)))
 generalize w2.alloc (.cells #[.int .i64 0, .slice none 0 0, .slice none 0 0, .bool false] 43) = w3 at *
 generalize w2.heap.size = g7 at *
 clear HX2 HR2 H2 G2 IN2 HBW2
 obtain ⟨b, f, cb, cf, ab, af, r, Rk, ps, hV⟩ := H3.out.tab
 have HV := Lib.hid hV
 clear hV
 have x0 : w3.cell? ⟨w.heap.size, 0, none⟩ = some (.int .i64 kind) := H3.out.op.cell' rfl
 have x1 : w3.cell? ⟨w.heap.size, 1, none⟩ = some (.string user) := H3.out.op.cell' rfl
 have x2 : w3.cell? ⟨w.heap.size, 2, none⟩ = some (.int .i64 id) := H3.out.op.cell' rfl
 have x3 : w3.cell? ⟨w.heap.size, 3, none⟩ = some (.int .i64 st) := H3.out.op.cell' rfl
 have x4 : w3.cell? ⟨w.heap.size, 4, none⟩ = some (.int .i64 pr) := H3.out.op.cell' rfl
 have x5 : w3.cell? ⟨w.heap.size, 5, none⟩ = some (.int .u64 ttl) := H3.out.op.cell' rfl
 have x6 : w3.cell? ⟨w.heap.size, 6, none⟩ = some (.slice A us.length c) := H3.out.op.cell' rfl
 have lx := H3.out.op.lt
 have c9 : w3.cell? ⟨t, 9, none⟩ = some (.bool a.closed) := HV.out.box.cell' rfl
 have lt3 := HV.out.box.lt
 rw [hcl] at c9
 have lr := H3.out.res.lt
 have r0_ := H3.out.res.cell' (i := 0) rfl
 have r1_ := H3.out.res.cell' (i := 1) rfl
 have r2_ := H3.out.res.cell' (i := 2) rfl
 have r3_ := H3.out.res.cell' (i := 3) rfl
 have q0_ := H3.out.res.frozen 0
 have q1_ := H3.out.res.frozen 1
 have q2_ := H3.out.res.frozen 2
 have q3_ := H3.out.res.frozen 3
 go_wp2_with fail
 have HW := rwrap rfl H3.out.res H3.out.tab H3.out.gone H3.out.nr (.int .i64 5) (.slice none 0 0) (.slice none 0 0) (.bool false)
 generalize (((w3.setCell ⟨w.heap.size + 1, 0, none⟩ (.int .i64 5)).setCell ⟨w.heap.size + 1, 1, none⟩ (.slice none 0 0)).setCell ⟨w.heap.size + 1, 2, none⟩ (.slice none 0 0)).setCell ⟨w.heap.size + 1, 3, none⟩ (.bool false) = wz at *
 have n0 := HW.box.cell' (i := 0) rfl
 have n1 := HW.box.cell' (i := 1) rfl
 have n2 := HW.box.cell' (i := 2) rfl
 have n3 := HW.box.cell' (i := 3) rfl
 refine bodyPost_ret (v := .agg #[.int .i64 5, .slice none 0 0, .slice none 0 0, .bool false]) (by simp [results, Tryz.results13, go_sem, n0, n1, n2, n3]) rfl ?_
 exact ⟨none, 0, none, 0, by first | rfl | (rw [HE.out]; rfl), fun h => absurd rfl h, fun h => absurd rfl h, Q, (by first | exact HW.tab.more (Nat.le_succ N) | (rw [HE.out]; exact HW.tab.more (Nat.le_succ N))), HW.gone⟩
set_option maxRecDepth 100000 in
set_option maxHeartbeats 4000000 in
theorem rdo9 (user : ByteArray) (id st pr ttl : Int) (A : Option Addr) (c : Nat) (us : List ByteArray) (h : RTab w base Q N t x a) (_hN : N ≤ 990) (ho : a.Ok bd) (_hbd : bd ≤ 380) (_hbw : base ≤ w.heap.size) {who : Nat} (hw : who < 8) (hin : OpW.In ⟨9, user, id, st, pr, ttl, A, c, us⟩ w) (hg : goodB ⟨9, user, id, st, pr, ttl, A, c, us⟩ = true) (hul : us.length ≤ 1000) (hcl : a.closed = false) :
  Calls Tryz.prog 13 #[.pointer (some ⟨t, 0, none⟩), .int .i64 (who : Int), .agg #[.int .i64 9, .string user, .int .i64 id, .int .i64 st, .int .i64 pr, .int .u64 ttl, .slice A us.length c]] w (RPolled w base Q (N + 1) t x (a.ask who ⟨9, user, id, st, pr, ttl, A, c, us⟩).1 (a.ask who ⟨9, user, id, st, pr, ttl, A, c, us⟩).2) := by
 have HUL : Hid (us.length ≤ 1000) := by show _ ≤ _; exact hul
 rw [show a.ask who ⟨9, user, id, st, pr, ttl, A, c, us⟩ = ({ a with closed := true }, Rep.of 0) from by simp [Mo.ask, hcl]]
 have dw0 : decide ((who : Int) < 0) = false := by simp
 have dw7 : decide ((7 : Int) < (who : Int)) = false := by simp; omega
 have bb := ((Below.refl w.heap.size w).alloc (Nat.le_refl _) (.cells #[.int .i64 9, .string user, .int .i64 id, .int .i64 st, .int .i64 pr, .int .u64 ttl, .slice A us.length c] 37)).alloc (by simp) (.cells #[.int .i64 0, .slice none 0 0, .slice none 0 0, .bool false] 43)
 have HX1 : Hid (Is ((w.alloc (.cells #[.int .i64 9, .string user, .int .i64 id, .int .i64 st, .int .i64 pr, .int .u64 ttl, .slice A us.length c] 37)).alloc (.cells #[.int .i64 0, .slice none 0 0, .slice none 0 0, .bool false] 43)) w.heap.size 37 #[.int .i64 9, .string user, .int .i64 id, .int .i64 st, .int .i64 pr, .int .u64 ttl, .slice A us.length c]) := (Is.new w _ _ rfl).alloc _
 have HR1 : Hid (Is ((w.alloc (.cells #[.int .i64 9, .string user, .int .i64 id, .int .i64 st, .int .i64 pr, .int .u64 ttl, .slice A us.length c] 37)).alloc (.cells #[.int .i64 0, .slice none 0 0, .slice none 0 0, .bool false] 43)) (w.heap.size + 1) 43 #[.int .i64 0, .slice none 0 0, .slice none 0 0, .bool false]) := Is.new _ _ _ (by simp)
 have H1 := Lib.hid (h.below bb)
 have G1 : Hid (Gone w Q _ Q) := Gone.of_below bb
 have IN1 := Lib.hid (hin.below bb)
 have hok := Lib.hid h.ok
 have HO := Lib.hid ho
 have HU := Lib.hid hin
 have hsz1 : w.heap.size + 2 ≤ ((w.alloc (.cells #[.int .i64 9, .string user, .int .i64 id, .int .i64 st, .int .i64 pr, .int .u64 ttl, .slice A us.length c] 37)).alloc (.cells #[.int .i64 0, .slice none 0 0, .slice none 0 0, .bool false] 43)).heap.size := by simp
 have HBW1 := Lib.hid bb
 clear bb h ho hin
 go_enter Tryz.func13, Tryz.ntmps13
 go_wp2_with fail
 generalize ((w.alloc (.cells #[.int .i64 9, .string user, .int .i64 id, .int .i64 st, .int .i64 pr, .int .u64 ttl, .slice A us.length c] 37)).alloc (.cells #[.int .i64 0, .slice none 0 0, .slice none 0 0, .bool false] 43)) = w1 at *
 refine (rbad ⟨9, user, id, st, pr, ttl, A, c, us⟩ IN1.out (by first | omega | exact HUL.out) (r := false) (by rw [hg]; rfl)).mono ?_
 rintro e w2 ⟨rfl, b2⟩
 have HX2 := Lib.hid (HX1.out.below b2 HX1.out.lt)
 have HR2 := Lib.hid (HR1.out.below b2 HR1.out.lt)
 have H2 := Lib.hid (H1.out.below b2)
 have G2 := Lib.hid (G1.out.trans (Gone.of_below b2))
 have IN2 := Lib.hid (IN1.out.below b2)
 have hsz2 := Nat.le_trans hsz1 b2.size
 have HBW2 := Lib.hid (HBW1.out.trans (b2.mono HBW1.out.size))
 clear b2 HX1 HR1 H1 G1 IN1 hsz1 HBW1
 go_upto_region 4 with (fail)
 have H3 : Hid (RD w (w2.alloc (.cells #[.int .i64 0, .slice none 0 0, .slice none 0 0, .bool false] 43)) base Q Q N t x w2.heap.size #[.int .i64 9, .string user, .int .i64 id, .int .i64 st, .int .i64 pr, .int .u64 ttl, .slice A us.length c] #[.int .i64 0, .slice none 0 0, .slice none 0 0, .bool false] a) := by
  have b3 := (Below.refl w2.heap.size w2).alloc (Nat.le_refl _) (.cells #[.int .i64 0, .slice none 0 0, .slice none 0 0, .bool false] 43)
  exact ⟨H2.out.below b3, G2.out.trans (Gone.of_below b3), HX2.out.below b3 HX2.out.lt, HR2.out.below b3 HR2.out.lt, Is.new w2 _ _ rfl, fun hx => by have := (hok.out _ hx).2; omega, fun hx => by have := (hok.out _ hx).2; omega, fun hx => by have := (H2.out.ok _ hx).2; omega, by omega⟩
 have HBW3 := Lib.hid (HBW2.out.alloc HBW2.out.size (.cells #[.int .i64 0, .slice none 0 0, .slice none 0 0, .bool false] 43))
 have IN3 := Lib.hid (IN2.out.below ((Below.refl w2.heap.size w2).alloc (Nat.le_refl _) (.cells #[.int .i64 0, .slice none 0 0, .slice none 0 0, .bool false] 43)))
 generalize w2.alloc (.cells #[.int .i64 0, .slice none 0 0, .slice none 0 0, .bool false] 43) = w3 at *
 generalize w2.heap.size = g7 at *
 clear HX2 HR2 H2 G2 IN2 HBW2
 obtain ⟨b, f, cb, cf, ab, af, r, Rk, ps, hV⟩ := H3.out.tab
 have HV := Lib.hid hV
 clear hV
 have x0 : w3.cell? ⟨w.heap.size, 0, none⟩ = some (.int .i64 9) := H3.out.op.cell' rfl
 have x1 : w3.cell? ⟨w.heap.size, 1, none⟩ = some (.string user) := H3.out.op.cell' rfl
 have x2 : w3.cell? ⟨w.heap.size, 2, none⟩ = some (.int .i64 id) := H3.out.op.cell' rfl
 have x3 : w3.cell? ⟨w.heap.size, 3, none⟩ = some (.int .i64 st) := H3.out.op.cell' rfl
 have x4 : w3.cell? ⟨w.heap.size, 4, none⟩ = some (.int .i64 pr) := H3.out.op.cell' rfl
 have x5 : w3.cell? ⟨w.heap.size, 5, none⟩ = some (.int .u64 ttl) := H3.out.op.cell' rfl
 have x6 : w3.cell? ⟨w.heap.size, 6, none⟩ = some (.slice A us.length c) := H3.out.op.cell' rfl
 have lx := H3.out.op.lt
 have c9 : w3.cell? ⟨t, 9, none⟩ = some (.bool a.closed) := HV.out.box.cell' rfl
 have lt3 := HV.out.box.lt
 have f9 := HV.out.box.frozen 9
 rw [hcl] at c9
 have ht := HV.out.time 9 (.bool true) (a' := { a with closed := true }) rfl rfl rfl rfl rfl
 have H4 := Lib.hid (H3.out.go ht.1.tab ht.2)
 clear ht
 go_upto_region 47 with (fail)
 generalize w3.setCell ⟨t, 9, none⟩ (.bool true) = w4 at *
 clear c9 lt3 f9 HV H3 x0 x1 x2 x3 x4 x5 x6 lx
 have lr := H4.out.res.lt
 have r0_ := H4.out.res.cell' (i := 0) rfl
 have r1_ := H4.out.res.cell' (i := 1) rfl
 have r2_ := H4.out.res.cell' (i := 2) rfl
 have r3_ := H4.out.res.cell' (i := 3) rfl
 have q0_ := H4.out.res.frozen 0
 have q1_ := H4.out.res.frozen 1
 have q2_ := H4.out.res.frozen 2
 have q3_ := H4.out.res.frozen 3
 have l7_ := H4.out.rr.lt
 have s0_ := H4.out.rr.cell' (i := 0) rfl
 have s1_ := H4.out.rr.cell' (i := 1) rfl
 have s2_ := H4.out.rr.cell' (i := 2) rfl
 have s3_ := H4.out.rr.cell' (i := 3) rfl
 go_wp2_with fail
 have HW := rwrap rfl H4.out.res H4.out.tab H4.out.gone H4.out.nr (.int .i64 0) (.slice none 0 0) (.slice none 0 0) (.bool false)
 generalize (((w4.setCell ⟨w.heap.size + 1, 0, none⟩ (.int .i64 0)).setCell ⟨w.heap.size + 1, 1, none⟩ (.slice none 0 0)).setCell ⟨w.heap.size + 1, 2, none⟩ (.slice none 0 0)).setCell ⟨w.heap.size + 1, 3, none⟩ (.bool false) = wz at *
 have n0 := HW.box.cell' (i := 0) rfl
 have n1 := HW.box.cell' (i := 1) rfl
 have n2 := HW.box.cell' (i := 2) rfl
 have n3 := HW.box.cell' (i := 3) rfl
 refine bodyPost_ret (v := .agg #[.int .i64 0, .slice none 0 0, .slice none 0 0, .bool false]) (by simp [results, Tryz.results13, go_sem, n0, n1, n2, n3]) rfl ?_
 exact ⟨none, 0, none, 0, by first | rfl | (rw [HE.out]; rfl), fun h => absurd rfl h, fun h => absurd rfl h, Q, (by first | exact HW.tab.more (Nat.le_succ N) | (rw [HE.out]; exact HW.tab.more (Nat.le_succ N))), HW.gone⟩
set_option maxRecDepth 100000 in
set_option maxHeartbeats 4000000 in
theorem rdo4 (user : ByteArray) (id st pr ttl : Int) (A : Option Addr) (c : Nat) (us : List ByteArray) (h : RTab w base Q N t x a) (_hN : N ≤ 990) (ho : a.Ok bd) (hbd : bd ≤ 380) (_hbw : base ≤ w.heap.size) {who : Nat} (hw : who < 8) (hin : OpW.In ⟨4, user, id, st, pr, ttl, A, c, us⟩ w) (hg : goodB ⟨4, user, id, st, pr, ttl, A, c, us⟩ = true) (hul : us.length ≤ 1000) (hcl : a.closed = false) :
  Calls Tryz.prog 13 #[.pointer (some ⟨t, 0, none⟩), .int .i64 (who : Int), .agg #[.int .i64 4, .string user, .int .i64 id, .int .i64 st, .int .i64 pr, .int .u64 ttl, .slice A us.length c]] w (RPolled w base Q (N + 1) t x (a.ask who ⟨4, user, id, st, pr, ttl, A, c, us⟩).1 (a.ask who ⟨4, user, id, st, pr, ttl, A, c, us⟩).2) := by
 have HUL : Hid (us.length ≤ 1000) := by show _ ≤ _; exact hul
 rw [show a.ask who ⟨4, user, id, st, pr, ttl, A, c, us⟩ = (a, ⟨0, [user].map a.pres, [], false⟩) from by simp [Mo.ask, hcl]]
 have dw0 : decide ((who : Int) < 0) = false := by simp
 have dw7 : decide ((7 : Int) < (who : Int)) = false := by simp; omega
 have bb := ((Below.refl w.heap.size w).alloc (Nat.le_refl _) (.cells #[.int .i64 4, .string user, .int .i64 id, .int .i64 st, .int .i64 pr, .int .u64 ttl, .slice A us.length c] 37)).alloc (by simp) (.cells #[.int .i64 0, .slice none 0 0, .slice none 0 0, .bool false] 43)
 have HX1 : Hid (Is ((w.alloc (.cells #[.int .i64 4, .string user, .int .i64 id, .int .i64 st, .int .i64 pr, .int .u64 ttl, .slice A us.length c] 37)).alloc (.cells #[.int .i64 0, .slice none 0 0, .slice none 0 0, .bool false] 43)) w.heap.size 37 #[.int .i64 4, .string user, .int .i64 id, .int .i64 st, .int .i64 pr, .int .u64 ttl, .slice A us.length c]) := (Is.new w _ _ rfl).alloc _
 have HR1 : Hid (Is ((w.alloc (.cells #[.int .i64 4, .string user, .int .i64 id, .int .i64 st, .int .i64 pr, .int .u64 ttl, .slice A us.length c] 37)).alloc (.cells #[.int .i64 0, .slice none 0 0, .slice none 0 0, .bool false] 43)) (w.heap.size + 1) 43 #[.int .i64 0, .slice none 0 0, .slice none 0 0, .bool false]) := Is.new _ _ _ (by simp)
 have H1 := Lib.hid (h.below bb)
 have G1 : Hid (Gone w Q _ Q) := Gone.of_below bb
 have IN1 := Lib.hid (hin.below bb)
 have hok := Lib.hid h.ok
 have HO := Lib.hid ho
 have HU := Lib.hid hin
 have hsz1 : w.heap.size + 2 ≤ ((w.alloc (.cells #[.int .i64 4, .string user, .int .i64 id, .int .i64 st, .int .i64 pr, .int .u64 ttl, .slice A us.length c] 37)).alloc (.cells #[.int .i64 0, .slice none 0 0, .slice none 0 0, .bool false] 43)).heap.size := by simp
 have HBW1 := Lib.hid bb
 clear bb h ho hin
 go_enter Tryz.func13, Tryz.ntmps13
 go_wp2_with fail
 generalize ((w.alloc (.cells #[.int .i64 4, .string user, .int .i64 id, .int .i64 st, .int .i64 pr, .int .u64 ttl, .slice A us.length c] 37)).alloc (.cells #[.int .i64 0, .slice none 0 0, .slice none 0 0, .bool false] 43)) = w1 at *
 refine (rbad ⟨4, user, id, st, pr, ttl, A, c, us⟩ IN1.out (by first | omega | exact HUL.out) (r := false) (by rw [hg]; rfl)).mono ?_
 rintro e w2 ⟨rfl, b2⟩
 have HX2 := Lib.hid (HX1.out.below b2 HX1.out.lt)
 have HR2 := Lib.hid (HR1.out.below b2 HR1.out.lt)
 have H2 := Lib.hid (H1.out.below b2)
 have G2 := Lib.hid (G1.out.trans (Gone.of_below b2))
 have IN2 := Lib.hid (IN1.out.below b2)
 have hsz2 := Nat.le_trans hsz1 b2.size
 have HBW2 := Lib.hid (HBW1.out.trans (b2.mono HBW1.out.size))
 clear b2 HX1 HR1 H1 G1 IN1 hsz1 HBW1
 go_upto_region 4 with (fail)
 have H3 : Hid (RD w (w2.alloc (.cells #[.int .i64 0, .slice none 0 0, .slice none 0 0, .bool false] 43)) base Q Q N t x w2.heap.size #[.int .i64 4, .string user, .int .i64 id, .int .i64 st, .int .i64 pr, .int .u64 ttl, .slice A us.length c] #[.int .i64 0, .slice none 0 0, .slice none 0 0, .bool false] a) := by
  have b3 := (Below.refl w2.heap.size w2).alloc (Nat.le_refl _) (.cells #[.int .i64 0, .slice none 0 0, .slice none 0 0, .bool false] 43)
  exact ⟨H2.out.below b3, G2.out.trans (Gone.of_below b3), HX2.out.below b3 HX2.out.lt, HR2.out.below b3 HR2.out.lt, Is.new w2 _ _ rfl, fun hx => by have := (hok.out _ hx).2; omega, fun hx => by have := (hok.out _ hx).2; omega, fun hx => by have := (H2.out.ok _ hx).2; omega, by omega⟩
 have HBW3 := Lib.hid (HBW2.out.alloc HBW2.out.size (.cells #[.int .i64 0, .slice none 0 0, .slice none 0 0, .bool false] 43))
 have IN3 := Lib.hid (IN2.out.below ((Below.refl w2.heap.size w2).alloc (Nat.le_refl _) (.cells #[.int .i64 0, .slice none 0 0, .slice none 0 0, .bool false] 43)))
 generalize w2.alloc (.cells #[.int .i64 0, .slice none 0 0, .slice none 0 0, .bool false] 43) = w3 at *
 generalize w2.heap.size = g7 at *
 clear HX2 HR2 H2 G2 IN2 HBW2
 obtain ⟨b, f, cb, cf, ab, af, r, Rk, ps, hV⟩ := H3.out.tab
 have HV := Lib.hid hV
 clear hV
 have x0 : w3.cell? ⟨w.heap.size, 0, none⟩ = some (.int .i64 4) := H3.out.op.cell' rfl
 have x1 : w3.cell? ⟨w.heap.size, 1, none⟩ = some (.string user) := H3.out.op.cell' rfl
 have x2 : w3.cell? ⟨w.heap.size, 2, none⟩ = some (.int .i64 id) := H3.out.op.cell' rfl
 have x3 : w3.cell? ⟨w.heap.size, 3, none⟩ = some (.int .i64 st) := H3.out.op.cell' rfl
 have x4 : w3.cell? ⟨w.heap.size, 4, none⟩ = some (.int .i64 pr) := H3.out.op.cell' rfl
 have x5 : w3.cell? ⟨w.heap.size, 5, none⟩ = some (.int .u64 ttl) := H3.out.op.cell' rfl
 have x6 : w3.cell? ⟨w.heap.size, 6, none⟩ = some (.slice A us.length c) := H3.out.op.cell' rfl
 have lx := H3.out.op.lt
 have c9 : w3.cell? ⟨t, 9, none⟩ = some (.bool a.closed) := HV.out.box.cell' rfl
 have lt3 := HV.out.box.lt
 rw [hcl] at c9
 obtain ⟨s0, s1, s2, hp⟩ : ∃ s0 s1 s2, a.pres user = (s0, s1, s2) := ⟨_, _, _, rfl⟩
 have HP := Lib.hid hp
 clear hp
 go_upto_block 2 with (fail)
 go_cut [7] (fun v7 wx => v7 = .pointer (some ⟨g7, 0, none⟩) ∧ ∃ gn, w.heap.size + 2 ≤ gn ∧ RD w wx base Q Q N t x g7 #[.int .i64 4, .string user, .int .i64 id, .int .i64 st, .int .i64 pr, .int .u64 ttl, .slice A us.length c] #[.int .i64 0, .slice (some ⟨gn, 0, none⟩) 1 1, .slice none 0 0, .bool false] a ∧ Seq wx (w.heap.size + 2) wx.heap.size (some ⟨gn, 0, none⟩) (flatPr [(s0, s1, s2)]))
 case first =>
  go_wp2_with fail
  refine (rpresence H3.out.tab HO.out hbd user HU.out.user HP.out).mono ?_
  rintro e w4 ⟨rfl, b4⟩
  have H4 := Lib.hid (H3.out.below b4)
  have lz4 : w.heap.size + 2 ≤ w4.heap.size := by have := H4.out.res.lt; omega
  clear b4 c9 lt3 HV H3 x0 x1 x2 x3 x4 x5 x6 lx
  have lr4 := H4.out.rr.lt
  have q4 := H4.out.rr.frozen 1
  have r4 := H4.out.rr.cell' (i := 1) rfl
  have H5 := Lib.hid (H4.out.put 1 (.slice (some ⟨w4.heap.size, 0, none⟩) 1 1) rfl)
  have HZ5 : Hid ((w4.setCell ⟨g7, 1, none⟩ (.slice (some ⟨w4.heap.size, 0, none⟩) 1 1)).heap.size = w4.heap.size) := by show _ = _; simp
  have H6 : Hid (RD w ((w4.setCell ⟨g7, 1, none⟩ (.slice (some ⟨w4.heap.size, 0, none⟩) 1 1)).alloc (.cells #[.int .i64 s0, .int .i64 s1, .int .i64 s2] 57)) base Q Q N t x g7 #[.int .i64 4, .string user, .int .i64 id, .int .i64 st, .int .i64 pr, .int .u64 ttl, .slice A us.length c] #[.int .i64 0, .slice (some ⟨w4.heap.size, 0, none⟩) 1 1, .slice none 0 0, .bool false] a) := H5.out.below ((Below.refl _ _).alloc (Nat.le_refl _) _)
  have HN6 := Lib.hid (Is.new (w4.setCell ⟨g7, 1, none⟩ (.slice (some ⟨w4.heap.size, 0, none⟩) 1 1)) 57 #[.int .i64 s0, .int .i64 s1, .int .i64 s2] HZ5.out.symm)
  have HS6 : Hid (Seq ((w4.setCell ⟨g7, 1, none⟩ (.slice (some ⟨w4.heap.size, 0, none⟩) 1 1)).alloc (.cells #[.int .i64 s0, .int .i64 s1, .int .i64 s2] 57)) (w.heap.size + 2) ((w4.setCell ⟨g7, 1, none⟩ (.slice (some ⟨w4.heap.size, 0, none⟩) 1 1)).alloc (.cells #[.int .i64 s0, .int .i64 s1, .int .i64 s2] 57)).heap.size (some ⟨w4.heap.size, 0, none⟩) (flatPr [(s0, s1, s2)])) := by
   intro _
   refine ⟨w4.heap.size, 0, rfl, lz4, by simp, fun i u hu => ?_⟩
   rw [Nat.zero_add, HN6.out.cell]
   simpa [flatPr, cellsPr] using hu
  clear H5 HZ5 HN6
  go_wp2_with fail
  go_meet
  exact ⟨rfl, _, lz4, H6.out, HS6.out⟩
 case rest =>
  obtain ⟨rfl, gn, hgn, h6, hs6⟩ := hcut
  have H6 := Lib.hid h6
  have HS6 := Lib.hid hs6
  clear h6 hs6 c9 lt3 HV H3 x0 x1 x2 x3 x4 x5 x6 lx
  have lr := H6.out.res.lt
  have r0_ := H6.out.res.cell' (i := 0) rfl
  have r1_ := H6.out.res.cell' (i := 1) rfl
  have r2_ := H6.out.res.cell' (i := 2) rfl
  have r3_ := H6.out.res.cell' (i := 3) rfl
  have q0_ := H6.out.res.frozen 0
  have q1_ := H6.out.res.frozen 1
  have q2_ := H6.out.res.frozen 2
  have q3_ := H6.out.res.frozen 3
  have l7_ := H6.out.rr.lt
  have s0_ := H6.out.rr.cell' (i := 0) rfl
  have s1_ := H6.out.rr.cell' (i := 1) rfl
  have s2_ := H6.out.rr.cell' (i := 2) rfl
  have s3_ := H6.out.rr.cell' (i := 3) rfl
  go_wp2_with fail
  have HW := rwrap rfl H6.out.res H6.out.tab H6.out.gone H6.out.nr (.int .i64 0) (.slice (some ⟨gn, 0, none⟩) 1 1) (.slice none 0 0) (.bool false)
  generalize (((wc.setCell ⟨w.heap.size + 1, 0, none⟩ (.int .i64 0)).setCell ⟨w.heap.size + 1, 1, none⟩ (.slice (some ⟨gn, 0, none⟩) 1 1)).setCell ⟨w.heap.size + 1, 2, none⟩ (.slice none 0 0)).setCell ⟨w.heap.size + 1, 3, none⟩ (.bool false) = wz at *
  have n0 := HW.box.cell' (i := 0) rfl
  have n1 := HW.box.cell' (i := 1) rfl
  have n2 := HW.box.cell' (i := 2) rfl
  have n3 := HW.box.cell' (i := 3) rfl
  refine bodyPost_ret (v := .agg #[.int .i64 0, .slice (some ⟨gn, 0, none⟩) 1 1, .slice none 0 0, .bool false]) (by simp [results, Tryz.results13, go_sem, n0, n1, n2, n3]) rfl ?_
  exact ⟨some ⟨gn, 0, none⟩, 1, none, 0, rfl, (by show Seq wz w.heap.size wz.heap.size _ (flatPr ([user].map a.pres)); rw [List.map_singleton, HP.out]; exact (HW.seq (by omega) HS6.out).from_ (by omega)), fun h => absurd rfl h, Q, HW.tab.more (Nat.le_succ N), HW.gone⟩
set_option maxRecDepth 100000 in
set_option maxHeartbeats 4000000 in
theorem rdo5 (user : ByteArray) (id st pr ttl : Int) (A : Option Addr) (c : Nat) (us : List ByteArray) (h : RTab w base Q N t x a) (_hN : N ≤ 990) (ho : a.Ok bd) (hbd : bd ≤ 380) (_hbw : base ≤ w.heap.size) {who : Nat} (hw : who < 8) (hin : OpW.In ⟨5, user, id, st, pr, ttl, A, c, us⟩ w) (hg : goodB ⟨5, user, id, st, pr, ttl, A, c, us⟩ = true) (hul : us.length ≤ 1000) (hcl : a.closed = false) :
  Calls Tryz.prog 13 #[.pointer (some ⟨t, 0, none⟩), .int .i64 (who : Int), .agg #[.int .i64 5, .string user, .int .i64 id, .int .i64 st, .int .i64 pr, .int .u64 ttl, .slice A us.length c]] w (RPolled w base Q (N + 1) t x (a.ask who ⟨5, user, id, st, pr, ttl, A, c, us⟩).1 (a.ask who ⟨5, user, id, st, pr, ttl, A, c, us⟩).2) := by
 have HUL : Hid (us.length ≤ 1000) := by show _ ≤ _; exact hul
 have hl8 : us.length ≤ 8 := by have h' := hg; simp [goodB] at h'; omega
 have hqq : ∀ z, Q z → z < w.heap.size := fun z hz => (h.ok z hz).2
 have HQQ := Lib.hid hqq
 clear hqq
 obtain ⟨i0, hE⟩ := elemPr
 have HE := Lib.hid hE
 clear hE
 rw [show a.ask who ⟨5, user, id, st, pr, ttl, A, c, us⟩ = (a, ⟨0, us.map a.pres, [], false⟩) from by simp [Mo.ask, hcl]]
 have dw0 : decide ((who : Int) < 0) = false := by simp
 have dw7 : decide ((7 : Int) < (who : Int)) = false := by simp; omega
 have bb := ((Below.refl w.heap.size w).alloc (Nat.le_refl _) (.cells #[.int .i64 5, .string user, .int .i64 id, .int .i64 st, .int .i64 pr, .int .u64 ttl, .slice A us.length c] 37)).alloc (by simp) (.cells #[.int .i64 0, .slice none 0 0, .slice none 0 0, .bool false] 43)
 have HX1 : Hid (Is ((w.alloc (.cells #[.int .i64 5, .string user, .int .i64 id, .int .i64 st, .int .i64 pr, .int .u64 ttl, .slice A us.length c] 37)).alloc (.cells #[.int .i64 0, .slice none 0 0, .slice none 0 0, .bool false] 43)) w.heap.size 37 #[.int .i64 5, .string user, .int .i64 id, .int .i64 st, .int .i64 pr, .int .u64 ttl, .slice A us.length c]) := (Is.new w _ _ rfl).alloc _
 have HR1 : Hid (Is ((w.alloc (.cells #[.int .i64 5, .string user, .int .i64 id, .int .i64 st, .int .i64 pr, .int .u64 ttl, .slice A us.length c] 37)).alloc (.cells #[.int .i64 0, .slice none 0 0, .slice none 0 0, .bool false] 43)) (w.heap.size + 1) 43 #[.int .i64 0, .slice none 0 0, .slice none 0 0, .bool false]) := Is.new _ _ _ (by simp)
 have H1 := Lib.hid (h.below bb)
 have G1 : Hid (Gone w Q _ Q) := Gone.of_below bb
 have IN1 := Lib.hid (hin.below bb)
 have hok := Lib.hid h.ok
 have HO := Lib.hid ho
 have HU := Lib.hid hin
 have hsz1 : w.heap.size + 2 ≤ ((w.alloc (.cells #[.int .i64 5, .string user, .int .i64 id, .int .i64 st, .int .i64 pr, .int .u64 ttl, .slice A us.length c] 37)).alloc (.cells #[.int .i64 0, .slice none 0 0, .slice none 0 0, .bool false] 43)).heap.size := by simp
 have HBW1 := Lib.hid bb
 clear bb h ho hin
 go_enter Tryz.func13, Tryz.ntmps13
 go_wp2_with fail
 generalize ((w.alloc (.cells #[.int .i64 5, .string user, .int .i64 id, .int .i64 st, .int .i64 pr, .int .u64 ttl, .slice A us.length c] 37)).alloc (.cells #[.int .i64 0, .slice none 0 0, .slice none 0 0, .bool false] 43)) = w1 at *
 refine (rbad ⟨5, user, id, st, pr, ttl, A, c, us⟩ IN1.out (by first | omega | exact HUL.out) (r := false) (by rw [hg]; rfl)).mono ?_
 rintro e w2 ⟨rfl, b2⟩
 have HX2 := Lib.hid (HX1.out.below b2 HX1.out.lt)
 have HR2 := Lib.hid (HR1.out.below b2 HR1.out.lt)
 have H2 := Lib.hid (H1.out.below b2)
 have G2 := Lib.hid (G1.out.trans (Gone.of_below b2))
 have IN2 := Lib.hid (IN1.out.below b2)
 have hsz2 := Nat.le_trans hsz1 b2.size
 have HBW2 := Lib.hid (HBW1.out.trans (b2.mono HBW1.out.size))
 clear b2 HX1 HR1 H1 G1 IN1 hsz1 HBW1
 go_upto_region 4 with (fail)
 have H3 : Hid (RD w (w2.alloc (.cells #[.int .i64 0, .slice none 0 0, .slice none 0 0, .bool false] 43)) base Q Q N t x w2.heap.size #[.int .i64 5, .string user, .int .i64 id, .int .i64 st, .int .i64 pr, .int .u64 ttl, .slice A us.length c] #[.int .i64 0, .slice none 0 0, .slice none 0 0, .bool false] a) := by
  have b3 := (Below.refl w2.heap.size w2).alloc (Nat.le_refl _) (.cells #[.int .i64 0, .slice none 0 0, .slice none 0 0, .bool false] 43)
  exact ⟨H2.out.below b3, G2.out.trans (Gone.of_below b3), HX2.out.below b3 HX2.out.lt, HR2.out.below b3 HR2.out.lt, Is.new w2 _ _ rfl, fun hx => by have := (hok.out _ hx).2; omega, fun hx => by have := (hok.out _ hx).2; omega, fun hx => by have := (H2.out.ok _ hx).2; omega, by omega⟩
 have HBW3 := Lib.hid (HBW2.out.alloc HBW2.out.size (.cells #[.int .i64 0, .slice none 0 0, .slice none 0 0, .bool false] 43))
 have IN3 := Lib.hid (IN2.out.below ((Below.refl w2.heap.size w2).alloc (Nat.le_refl _) (.cells #[.int .i64 0, .slice none 0 0, .slice none 0 0, .bool false] 43)))
 generalize w2.alloc (.cells #[.int .i64 0, .slice none 0 0, .slice none 0 0, .bool false] 43) = w3 at *
 generalize w2.heap.size = g7 at *
 clear HX2 HR2 H2 G2 IN2 HBW2
 obtain ⟨b, f, cb, cf, ab, af, r, Rk, ps, hV⟩ := H3.out.tab
 have HV := Lib.hid hV
 clear hV
 have x0 : w3.cell? ⟨w.heap.size, 0, none⟩ = some (.int .i64 5) := H3.out.op.cell' rfl
 have x1 : w3.cell? ⟨w.heap.size, 1, none⟩ = some (.string user) := H3.out.op.cell' rfl
 have x2 : w3.cell? ⟨w.heap.size, 2, none⟩ = some (.int .i64 id) := H3.out.op.cell' rfl
 have x3 : w3.cell? ⟨w.heap.size, 3, none⟩ = some (.int .i64 st) := H3.out.op.cell' rfl
 have x4 : w3.cell? ⟨w.heap.size, 4, none⟩ = some (.int .i64 pr) := H3.out.op.cell' rfl
 have x5 : w3.cell? ⟨w.heap.size, 5, none⟩ = some (.int .u64 ttl) := H3.out.op.cell' rfl
 have x6 : w3.cell? ⟨w.heap.size, 6, none⟩ = some (.slice A us.length c) := H3.out.op.cell' rfl
 have lx := H3.out.op.lt
 have c9 : w3.cell? ⟨t, 9, none⟩ = some (.bool a.closed) := HV.out.box.cell' rfl
 have lt3 := HV.out.box.lt
 rw [hcl] at c9
 go_upto_block 2 with (fail)
 go_cut [7] (fun v7 wx => v7 = .pointer (some ⟨g7, 0, none⟩) ∧ ∃ A5 c5, RD w wx base Q Q N t x g7 #[.int .i64 5, .string user, .int .i64 id, .int .i64 st, .int .i64 pr, .int .u64 ttl, .slice A us.length c] #[.int .i64 0, .slice A5 us.length c5, .slice none 0 0, .bool false] a ∧ Seq wx (g7 + 1) wx.heap.size A5 (flatPr (us.map a.pres)))
 case first =>
  go_wp2_with fail
  have HUS3 : Hid (Seq w3 0 (w.heap.size + 2) A (us.map .string)) := (HU.out.us.below HBW3.out).more (by show w.heap.size ≤ _; omega)
  go_loopw [17] (fun vi wr => ∃ (j : Nat) (v : Value), j ≤ us.length ∧ vi = .int .i64 j ∧ RD w wr base Q Q N t x g7 #[.int .i64 5, .string user, .int .i64 id, .int .i64 st, .int .i64 pr, .int .u64 ttl, .slice A us.length c] #[.int .i64 0, v, .slice none 0 0, .bool false] a ∧ Seq wr 0 (w.heap.size + 2) A (us.map .string) ∧ wr.ownsRow (g7 + 1) 57 3 v j (flatPr ((us.take j).map a.pres))) (fun vi _ => us.length - (intOf vi).toNat)
  case atStart => exact ⟨0, .slice none 0 0, Nat.zero_le _, rfl, H3.out, HUS3.out, World.ownsRow_nil _ _ _ _⟩
  case round =>
   clear H3 HV c9 lt3 x0 x1 x2 x3 x4 x5 x6 lx HUS3 IN3
   obtain ⟨j, v, hj, rfl, hR, hS, hO⟩ := hrel
   obtain ⟨Dv, cv, rfl, _⟩ := own_shape hO
   have HR := Lib.hid hR
   have HOW := Lib.hid hO
   have HUS := Lib.hid hS
   have HPO := Lib.hid hO
   clear hR hO hS HPO
   have x6 : wr.cell? ⟨w.heap.size, 6, none⟩ = some (.slice A us.length c) := HR.out.op.cell' rfl
   have lx := HR.out.op.lt
   by_cases hlt : j < us.length
   ·have d1 : decide ((j : Int) < (us.length : Int)) = true := by simp; omega
    obtain ⟨ga, oa, rfl, _, hga, c0⟩ := HUS.out.str hlt
    have HTK : Hid ((us.take (j + 1)).map a.pres = (us.take j).map a.pres ++ [a.pres us[j]]) := by show _ = _; rw [List.take_succ_eq_append_getElem hlt, List.map_append]; rfl
    have HZ1 := Lib.hid (HU.out.size _ (List.getElem_mem hlt))
    obtain ⟨u, hue⟩ : ∃ u, us[j] = u := ⟨_, rfl⟩
    rw [hue] at c0 HTK HZ1
    have HUE := Lib.hid hue
    have hlt2 := hlt
    clear hue
    obtain ⟨s0, s1, s2, hp⟩ : ∃ s0 s1 s2, a.pres u = (s0, s1, s2) := ⟨_, _, _, rfl⟩
    rw [hp] at HTK
    have HP := Lib.hid hp
    clear hp
    have lga : ga < wr.heap.size := block_lt_of_cell c0
    have h7 := HR.out.l7
    have l7w := HR.out.rr.lt
    have hsl : ((us.take j).map a.pres).length = j := by simp; omega
    generalize (us.take j).map a.pres = fs at *
    have HKS : Hid (∀ W', Is W' w.heap.size 37 #[.int .i64 5, .string user, .int .i64 id, .int .i64 st, .int .i64 pr, .int .u64 ttl, .slice (some ⟨ga, oa, none⟩) us.length c] → Seq W' 0 (w.heap.size + 2) (some ⟨ga, oa, none⟩) (us.map .string) → W'.cell? ⟨w.heap.size, 6, none⟩ = some (.slice (some ⟨ga, oa, none⟩) us.length c) ∧ W'.cell? ⟨ga, oa + j, none⟩ = some (.string u)) := fun W' hi hs => ⟨hi.cell' rfl, by obtain ⟨g2, o2, e2, _, _, c2⟩ := hs.str hlt2; injection e2 with e2; injection e2 with e3 e4; subst e3 e4; rw [HUE.out] at c2; exact c2⟩
    go_wp2_with fail
    have bd : Below wr.heap.size wr wr.drew := Law.below_drewN (Below.refl _ _) 1
    have HRd := Lib.hid (HR.out.below bd)
    have HOd := Lib.hid (own_below HOW.out bd)
    have HUd := Lib.hid (HUS.out.below (bd.mono (by omega)))
    refine wp_region_held_drew (S := fun w' => w'.cell? ⟨w.heap.size, 6, none⟩ = some (.slice (some ⟨ga, oa, none⟩) us.length c) ∧ w'.cell? ⟨ga, oa + j, none⟩ = some (.string u)) (by kernel_rfl) (HKS.out _ HRd.out.op HUd.out) (fun hS0 => ?_)
    refine Go.Law.tk 0 ⟨some 157, .fieldAddr 43 (.tmp 7) 1, _, _, _, _⟩ (v := .pointer (some ⟨g7, 1, none⟩)) hS0 ?_ ?_
    ·intro w' hSw
     go_simp
    try simp only [Go.Law.pz]
    refine Go.Law.tk 2 ⟨some 159, .move (.tmp 0), _, _, _, _⟩ (v := .pointer (some ⟨t, 0, none⟩)) hS0 ?_ ?_
    ·intro w' hSw
     go_simp
    try simp only [Go.Law.pz]
    refine Go.Law.tk 3 ⟨some 160, .fieldAddr 37 (.tmp 5) 6, _, _, _, _⟩ (v := .pointer (some ⟨w.heap.size, 6, none⟩)) hS0 ?_ ?_
    ·intro w' hSw
     go_simp
    try simp only [Go.Law.pz]
    refine Go.Law.tk 4 ⟨some 161, .load 35 (.tmp 160), _, _, _, _⟩ (v := .slice (some ⟨ga, oa, none⟩) us.length c) hS0 ?_ ?_
    ·intro w' hSw
     obtain ⟨s0, s1⟩ := hSw
     go_simp
    try simp only [Go.Law.pz]
    refine Go.Law.tk 5 ⟨some 162, .move (.tmp 17), _, _, _, _⟩ (v := .int .i64 (j : Int)) hS0 ?_ ?_
    ·intro w' hSw
     go_simp
    try simp only [Go.Law.pz]
    refine Go.Law.tk 6 ⟨some 163, .indexAddr 35 (.tmp 161) (.tmp 162), _, _, _, _⟩ (v := .pointer (some ⟨ga, oa + j, none⟩)) hS0 ?_ ?_
    ·intro w' hSw
     go_simp; (try (intro h8; omega))
    try simp only [Go.Law.pz]
    refine Go.Law.tk 7 ⟨some 164, .load 9 (.tmp 163), _, _, _, _⟩ (v := .string u) hS0 ?_ ?_
    ·intro w' hSw
     obtain ⟨s0, s1⟩ := hSw
     go_simp
    try simp only [Go.Law.pz]
    clear hS0 HR HOW HUS bd
    generalize wr.drew = W0 at *
    refine wpAnyH_ready (rs := [1, 8]) (by kernel_rfl) (by simp) ?_
    refine AllReadyH.cons (o := ⟨some 158, .load 40 (.tmp 157), _, _, _, _⟩) rfl (fun K' hK => ?_) ?_
    ·have cl : W0.cell? ⟨g7, 1, none⟩ = some (.slice Dv j cv) := HRd.out.rr.cell' rfl
     go_simp
     refine hK.out _ _ (HKS.out _ HRd.out.op HUd.out) (fun _ => ?_)
     clear hK K' cl
     try simp only [Go.Law.pz]
     refine wpAnyH_ready (rs := [8]) (by kernel_rfl) (by simp) ?_
     refine AllReadyH.cons (o := ⟨some 165, .call { callee := .value (.func 17), args := #[.tmp 159, .tmp 164], argTypes := _ }, _, _, _, _⟩) rfl (fun K' hK => ?_) AllReadyH.nil
     go_simp
     refine Calls.mono (rpresence HRd.out.tab HO.out hbd u HZ1.out HP.out) ?_
     rintro e Y2 ⟨rfl, bq⟩
     have HR2 := Lib.hid (HRd.out.below bq)
     have HO2 := Lib.hid (own_below HOd.out bq)
     have HU2 := Lib.hid (HUd.out.below (bq.mono (by have := HRd.out.res.lt; omega)))
     go_wp2_with fail
     refine hK.out _ _ (HKS.out _ HR2.out.op HU2.out) (fun _ => ?_)
     clear hK K' bq
     try simp only [Go.Law.pz]
     refine wpAnyH_ready (rs := [9]) (by kernel_rfl) (by simp) ?_
     refine AllReadyH.cons (o := ⟨some 166, .buildSlice 40 1 #[(0, .tmp 165)], _, _, _, _⟩) rfl (fun K' hK => ?_) AllReadyH.nil
     have bq := (Below.refl Y2.heap.size Y2).alloc (Nat.le_refl _) (.cells #[.int .i64 s0, .int .i64 s1, .int .i64 s2] 57)
     have HR3 := Lib.hid (HR2.out.below bq)
     have HO3 := Lib.hid (own_below HO2.out bq)
     have HU3 := Lib.hid (HU2.out.below (bq.mono (by have := HR2.out.res.lt; omega)))
     have HN3 := Lib.hid (Is.new Y2 57 #[.int .i64 s0, .int .i64 s1, .int .i64 s2] rfl)
     have hn3 : ∀ k, (Value.slice Dv j cv).ownBlock = some k → k ≠ Y2.heap.size := fun k hk => by have := (HO2.out.lt k hk).2; omega
     go_simp
     refine hK.out _ _ (HKS.out _ HR3.out.op HU3.out) (fun _ => ?_)
     clear hK K' bq
     try simp only [Go.Law.pz]
     generalize Y2.alloc (.cells #[.int .i64 s0, .int .i64 s1, .int .i64 s2] 57) = Y3 at *
     generalize Y2.heap.size = gn3 at *
     refine wpAnyH_ready (rs := [10]) (by kernel_rfl) (by simp) ?_
     refine AllReadyH.cons (o := ⟨some 167, .call { callee := .builtin .append, args := #[.tmp 158, .tmp 166], argTypes := #[40, 40] }, _, _, _, _⟩) rfl (fun K' hK => ?_) AllReadyH.nil
     have hs_ : Seq Y3 gn3 (gn3 + 1) (some ⟨gn3, 0, none⟩) (cellsPr (s0, s1, s2)) := fun _ => ⟨gn3, 0, rfl, Nat.le_refl _, Nat.lt_succ_self _, fun i u' hu' => by rw [Nat.zero_add, HN3.out.cell]; simpa [cellsPr] using hu'⟩
     refine Law.step_append_seq _ (g7 + 1) 40 rfl (.tmp 158) (.tmp 166) rfl HE.out (.slice Dv j cv) j (flatPr fs) (by simp [Act.eval]) (by exact HO3.out) gn3 (gn3 + 1) (some ⟨gn3, 0, none⟩) 1 1 (cellsPr (s0, s1, s2)) (by simp [Act.eval]) rfl hs_ (one_Pr _) (by unfold maxLen; omega) (by omega) (by have := HR3.out.rr.lt; omega) ?_
     intro vz WZ own grow
     have HRZ := Lib.hid (HR3.out.grown HQQ.out HO3.out grow (by decide) (by decide) (by decide))
     have HUZ : Hid (Seq WZ 0 (w.heap.size + 2) (some ⟨ga, oa, none⟩) (us.map .string)) := (Law.Touch.grown (T := fun k => g7 < k) grow (fun k hk => (HO3.out.lt k hk).1)).seq HU3.out (by have := HR3.out.res.lt; omega) (fun k hk => .inr (by omega))
     refine hK.out _ _ (HKS.out _ HRZ.out.op HUZ.out) (fun _ => ?_)
     clear hK K' hs_
     try simp only [Go.Law.pz]
     have HOZ : Hid (WZ.ownsRow (g7 + 1) 57 3 vz (j + 1) (flatPr (fs ++ [(s0, s1, s2)]))) := by show World.ownsRow _ _ _ _ _ _ _; rw [flatPr_snoc]; exact own
     obtain ⟨Dz, cz, rfl, _⟩ := own_shape HOZ.out
     clear own grow
     refine Go.Law.tk 11 ⟨some 168, .fieldAddr 43 (.tmp 7) 1, _, _, _, _⟩ (v := .pointer (some ⟨g7, 1, none⟩)) (HKS.out _ HRZ.out.op HUZ.out) ?_ ?_
     ·intro w' hSw
      go_simp
     try simp only [Go.Law.pz]
     refine wpAnyH_ready (rs := [12]) (by kernel_rfl) (by simp) ?_
     refine AllReadyH.cons (o := ⟨none, .store 40 (.tmp 168) (.tmp 167), _, _, _, _⟩) rfl (fun K' hK => ?_) AllReadyH.nil
     have cl : WZ.cell? ⟨g7, 1, none⟩ = some (.slice Dv j cv) := HRZ.out.rr.cell' rfl
     have fl := HRZ.out.rr.frozen 1
     have ll := HRZ.out.rr.lt
     have HRY := Lib.hid (HRZ.out.put 1 (.slice Dz (j + 1) cz) rfl)
     have HUY := Lib.hid (HUZ.out.store (p := ⟨g7, 1, none⟩) (.inr (by show _ ≤ g7; omega)) (.slice Dz (j + 1) cz))
     have hown : ∀ k, (Value.slice Dz (j + 1) cz).ownBlock = some k → k ≠ g7 := fun k hk => by have := (HOZ.out.lt k hk).1; omega
     have HOY : Hid ((WZ.setCell ⟨g7, 1, none⟩ (.slice Dz (j + 1) cz)).ownsRow (g7 + 1) 57 3 (.slice Dz (j + 1) cz) (j + 1) (flatPr (fs ++ [(s0, s1, s2)]))) := (Law.Touch.store (T := fun k => k = g7) WZ ⟨g7, 1, none⟩ _ rfl).own HOZ.out hown
     go_simp
     refine hK.out _ _ (HKS.out _ HRY.out.op HUY.out) (fun _ => ?_)
     clear hK K' cl fl ll hown
     try simp only [Go.Law.pz]
     refine wpAnyH_done (by kernel_rfl) ?_ _
     go_wp2_with fail
     go_roundw
     case rel => exact ⟨j + 1, _, by omega, by go_num, HRY.out, HUY.out, by rw [HTK.out]; exact HOY.out⟩
     case measure => simp [intOf]; omega
    refine AllReadyH.cons (o := ⟨some 165, .call { callee := .value (.func 17), args := #[.tmp 159, .tmp 164], argTypes := _ }, _, _, _, _⟩) rfl (fun K' hK => ?_) AllReadyH.nil
    go_simp
    refine Calls.mono (rpresence HRd.out.tab HO.out hbd u HZ1.out HP.out) ?_
    rintro e Y4 ⟨rfl, bq⟩
    have HR4 := Lib.hid (HRd.out.below bq)
    have HO4 := Lib.hid (own_below HOd.out bq)
    have HU4 := Lib.hid (HUd.out.below (bq.mono (by have := HRd.out.res.lt; omega)))
    go_wp2_with fail
    refine hK.out _ _ (HKS.out _ HR4.out.op HU4.out) (fun _ => ?_)
    clear hK K' bq
    try simp only [Go.Law.pz]
    refine wpAnyH_ready (rs := [1, 9]) (by kernel_rfl) (by simp) ?_
    refine AllReadyH.cons (o := ⟨some 158, .load 40 (.tmp 157), _, _, _, _⟩) rfl (fun K' hK => ?_) ?_
    ·have cl : Y4.cell? ⟨g7, 1, none⟩ = some (.slice Dv j cv) := HR4.out.rr.cell' rfl
     go_simp
     refine hK.out _ _ (HKS.out _ HR4.out.op HU4.out) (fun _ => ?_)
     clear hK K' cl
     try simp only [Go.Law.pz]
     refine wpAnyH_ready (rs := [9]) (by kernel_rfl) (by simp) ?_
     refine AllReadyH.cons (o := ⟨some 166, .buildSlice 40 1 #[(0, .tmp 165)], _, _, _, _⟩) rfl (fun K' hK => ?_) AllReadyH.nil
     have bq := (Below.refl Y4.heap.size Y4).alloc (Nat.le_refl _) (.cells #[.int .i64 s0, .int .i64 s1, .int .i64 s2] 57)
     have HR6 := Lib.hid (HR4.out.below bq)
     have HO6 := Lib.hid (own_below HO4.out bq)
     have HU6 := Lib.hid (HU4.out.below (bq.mono (by have := HR4.out.res.lt; omega)))
     have HN6 := Lib.hid (Is.new Y4 57 #[.int .i64 s0, .int .i64 s1, .int .i64 s2] rfl)
     have hn6 : ∀ k, (Value.slice Dv j cv).ownBlock = some k → k ≠ Y4.heap.size := fun k hk => by have := (HO4.out.lt k hk).2; omega
     go_simp
     refine hK.out _ _ (HKS.out _ HR6.out.op HU6.out) (fun _ => ?_)
     clear hK K' bq
     try simp only [Go.Law.pz]
     generalize Y4.alloc (.cells #[.int .i64 s0, .int .i64 s1, .int .i64 s2] 57) = Y6 at *
     generalize Y4.heap.size = gn6 at *
     refine wpAnyH_ready (rs := [10]) (by kernel_rfl) (by simp) ?_
     refine AllReadyH.cons (o := ⟨some 167, .call { callee := .builtin .append, args := #[.tmp 158, .tmp 166], argTypes := #[40, 40] }, _, _, _, _⟩) rfl (fun K' hK => ?_) AllReadyH.nil
     have hs_ : Seq Y6 gn6 (gn6 + 1) (some ⟨gn6, 0, none⟩) (cellsPr (s0, s1, s2)) := fun _ => ⟨gn6, 0, rfl, Nat.le_refl _, Nat.lt_succ_self _, fun i u' hu' => by rw [Nat.zero_add, HN6.out.cell]; simpa [cellsPr] using hu'⟩
     refine Law.step_append_seq _ (g7 + 1) 40 rfl (.tmp 158) (.tmp 166) rfl HE.out (.slice Dv j cv) j (flatPr fs) (by simp [Act.eval]) (by exact HO6.out) gn6 (gn6 + 1) (some ⟨gn6, 0, none⟩) 1 1 (cellsPr (s0, s1, s2)) (by simp [Act.eval]) rfl hs_ (one_Pr _) (by unfold maxLen; omega) (by omega) (by have := HR6.out.rr.lt; omega) ?_
     intro vz WZ own grow
     have HRZ := Lib.hid (HR6.out.grown HQQ.out HO6.out grow (by decide) (by decide) (by decide))
     have HUZ : Hid (Seq WZ 0 (w.heap.size + 2) (some ⟨ga, oa, none⟩) (us.map .string)) := (Law.Touch.grown (T := fun k => g7 < k) grow (fun k hk => (HO6.out.lt k hk).1)).seq HU6.out (by have := HR6.out.res.lt; omega) (fun k hk => .inr (by omega))
     refine hK.out _ _ (HKS.out _ HRZ.out.op HUZ.out) (fun _ => ?_)
     clear hK K' hs_
     try simp only [Go.Law.pz]
     have HOZ : Hid (WZ.ownsRow (g7 + 1) 57 3 vz (j + 1) (flatPr (fs ++ [(s0, s1, s2)]))) := by show World.ownsRow _ _ _ _ _ _ _; rw [flatPr_snoc]; exact own
     obtain ⟨Dz, cz, rfl, _⟩ := own_shape HOZ.out
     clear own grow
     refine Go.Law.tk 11 ⟨some 168, .fieldAddr 43 (.tmp 7) 1, _, _, _, _⟩ (v := .pointer (some ⟨g7, 1, none⟩)) (HKS.out _ HRZ.out.op HUZ.out) ?_ ?_
     ·intro w' hSw
      go_simp
     try simp only [Go.Law.pz]
     refine wpAnyH_ready (rs := [12]) (by kernel_rfl) (by simp) ?_
     refine AllReadyH.cons (o := ⟨none, .store 40 (.tmp 168) (.tmp 167), _, _, _, _⟩) rfl (fun K' hK => ?_) AllReadyH.nil
     have cl : WZ.cell? ⟨g7, 1, none⟩ = some (.slice Dv j cv) := HRZ.out.rr.cell' rfl
     have fl := HRZ.out.rr.frozen 1
     have ll := HRZ.out.rr.lt
     have HRY := Lib.hid (HRZ.out.put 1 (.slice Dz (j + 1) cz) rfl)
     have HUY := Lib.hid (HUZ.out.store (p := ⟨g7, 1, none⟩) (.inr (by show _ ≤ g7; omega)) (.slice Dz (j + 1) cz))
     have hown : ∀ k, (Value.slice Dz (j + 1) cz).ownBlock = some k → k ≠ g7 := fun k hk => by have := (HOZ.out.lt k hk).1; omega
     have HOY : Hid ((WZ.setCell ⟨g7, 1, none⟩ (.slice Dz (j + 1) cz)).ownsRow (g7 + 1) 57 3 (.slice Dz (j + 1) cz) (j + 1) (flatPr (fs ++ [(s0, s1, s2)]))) := (Law.Touch.store (T := fun k => k = g7) WZ ⟨g7, 1, none⟩ _ rfl).own HOZ.out hown
     go_simp
     refine hK.out _ _ (HKS.out _ HRY.out.op HUY.out) (fun _ => ?_)
     clear hK K' cl fl ll hown
     try simp only [Go.Law.pz]
     refine wpAnyH_done (by kernel_rfl) ?_ _
     go_wp2_with fail
     go_roundw
     case rel => exact ⟨j + 1, _, by omega, by go_num, HRY.out, HUY.out, by rw [HTK.out]; exact HOY.out⟩
     case measure => simp [intOf]; omega
    refine AllReadyH.cons (o := ⟨some 166, .buildSlice 40 1 #[(0, .tmp 165)], _, _, _, _⟩) rfl (fun K' hK => ?_) AllReadyH.nil
    have bq := (Below.refl Y4.heap.size Y4).alloc (Nat.le_refl _) (.cells #[.int .i64 s0, .int .i64 s1, .int .i64 s2] 57)
    have HR7 := Lib.hid (HR4.out.below bq)
    have HO7 := Lib.hid (own_below HO4.out bq)
    have HU7 := Lib.hid (HU4.out.below (bq.mono (by have := HR4.out.res.lt; omega)))
    have HN7 := Lib.hid (Is.new Y4 57 #[.int .i64 s0, .int .i64 s1, .int .i64 s2] rfl)
    have hn7 : ∀ k, (Value.slice Dv j cv).ownBlock = some k → k ≠ Y4.heap.size := fun k hk => by have := (HO4.out.lt k hk).2; omega
    go_simp
    refine hK.out _ _ (HKS.out _ HR7.out.op HU7.out) (fun _ => ?_)
    clear hK K' bq
    try simp only [Go.Law.pz]
    generalize Y4.alloc (.cells #[.int .i64 s0, .int .i64 s1, .int .i64 s2] 57) = Y7 at *
    generalize Y4.heap.size = gn7 at *
    refine wpAnyH_ready (rs := [1]) (by kernel_rfl) (by simp) ?_
    refine AllReadyH.cons (o := ⟨some 158, .load 40 (.tmp 157), _, _, _, _⟩) rfl (fun K' hK => ?_) AllReadyH.nil
    have cl : Y7.cell? ⟨g7, 1, none⟩ = some (.slice Dv j cv) := HR7.out.rr.cell' rfl
    go_simp
    refine hK.out _ _ (HKS.out _ HR7.out.op HU7.out) (fun _ => ?_)
    clear hK K' cl
    try simp only [Go.Law.pz]
    refine wpAnyH_ready (rs := [10]) (by kernel_rfl) (by simp) ?_
    refine AllReadyH.cons (o := ⟨some 167, .call { callee := .builtin .append, args := #[.tmp 158, .tmp 166], argTypes := #[40, 40] }, _, _, _, _⟩) rfl (fun K' hK => ?_) AllReadyH.nil
    have hs_ : Seq Y7 gn7 (gn7 + 1) (some ⟨gn7, 0, none⟩) (cellsPr (s0, s1, s2)) := fun _ => ⟨gn7, 0, rfl, Nat.le_refl _, Nat.lt_succ_self _, fun i u' hu' => by rw [Nat.zero_add, HN7.out.cell]; simpa [cellsPr] using hu'⟩
    refine Law.step_append_seq _ (g7 + 1) 40 rfl (.tmp 158) (.tmp 166) rfl HE.out (.slice Dv j cv) j (flatPr fs) (by simp [Act.eval]) (by exact HO7.out) gn7 (gn7 + 1) (some ⟨gn7, 0, none⟩) 1 1 (cellsPr (s0, s1, s2)) (by simp [Act.eval]) rfl hs_ (one_Pr _) (by unfold maxLen; omega) (by omega) (by have := HR7.out.rr.lt; omega) ?_
    intro vz WZ own grow
    have HRZ := Lib.hid (HR7.out.grown HQQ.out HO7.out grow (by decide) (by decide) (by decide))
    have HUZ : Hid (Seq WZ 0 (w.heap.size + 2) (some ⟨ga, oa, none⟩) (us.map .string)) := (Law.Touch.grown (T := fun k => g7 < k) grow (fun k hk => (HO7.out.lt k hk).1)).seq HU7.out (by have := HR7.out.res.lt; omega) (fun k hk => .inr (by omega))
    refine hK.out _ _ (HKS.out _ HRZ.out.op HUZ.out) (fun _ => ?_)
    clear hK K' hs_
    try simp only [Go.Law.pz]
    have HOZ : Hid (WZ.ownsRow (g7 + 1) 57 3 vz (j + 1) (flatPr (fs ++ [(s0, s1, s2)]))) := by show World.ownsRow _ _ _ _ _ _ _; rw [flatPr_snoc]; exact own
    obtain ⟨Dz, cz, rfl, _⟩ := own_shape HOZ.out
    clear own grow
    refine Go.Law.tk 11 ⟨some 168, .fieldAddr 43 (.tmp 7) 1, _, _, _, _⟩ (v := .pointer (some ⟨g7, 1, none⟩)) (HKS.out _ HRZ.out.op HUZ.out) ?_ ?_
    ·intro w' hSw
     go_simp
    try simp only [Go.Law.pz]
    refine wpAnyH_ready (rs := [12]) (by kernel_rfl) (by simp) ?_
    refine AllReadyH.cons (o := ⟨none, .store 40 (.tmp 168) (.tmp 167), _, _, _, _⟩) rfl (fun K' hK => ?_) AllReadyH.nil
    have cl : WZ.cell? ⟨g7, 1, none⟩ = some (.slice Dv j cv) := HRZ.out.rr.cell' rfl
    have fl := HRZ.out.rr.frozen 1
    have ll := HRZ.out.rr.lt
    have HRY := Lib.hid (HRZ.out.put 1 (.slice Dz (j + 1) cz) rfl)
    have HUY := Lib.hid (HUZ.out.store (p := ⟨g7, 1, none⟩) (.inr (by show _ ≤ g7; omega)) (.slice Dz (j + 1) cz))
    have hown : ∀ k, (Value.slice Dz (j + 1) cz).ownBlock = some k → k ≠ g7 := fun k hk => by have := (HOZ.out.lt k hk).1; omega
    have HOY : Hid ((WZ.setCell ⟨g7, 1, none⟩ (.slice Dz (j + 1) cz)).ownsRow (g7 + 1) 57 3 (.slice Dz (j + 1) cz) (j + 1) (flatPr (fs ++ [(s0, s1, s2)]))) := (Law.Touch.store (T := fun k => k = g7) WZ ⟨g7, 1, none⟩ _ rfl).own HOZ.out hown
    go_simp
    refine hK.out _ _ (HKS.out _ HRY.out.op HUY.out) (fun _ => ?_)
    clear hK K' cl fl ll hown
    try simp only [Go.Law.pz]
    refine wpAnyH_done (by kernel_rfl) ?_ _
    go_wp2_with fail
    go_roundw
    case rel => exact ⟨j + 1, _, by omega, by go_num, HRY.out, HUY.out, by rw [HTK.out]; exact HOY.out⟩
    case measure => simp [intOf]; omega
   ·obtain rfl : j = us.length := by omega
    have d1 : decide ((us.length : Int) < (us.length : Int)) = false := by simp
    have h2 := HOW.out
    rw [List.take_of_length_le (Nat.le_refl _)] at h2
    have HSQ := Lib.hid (Seq.own h2)
    clear h2
    go_wp2_with fail
    go_meet
    exact ⟨rfl, Dv, cv, HR.out, HSQ.out⟩
 case rest =>
  obtain ⟨rfl, A5, c5, h6, hs6⟩ := hcut
  have H6 := Lib.hid h6
  have HS6 := Lib.hid hs6
  have h77 := h6.l7
  clear h6 hs6 c9 lt3 HV H3 x0 x1 x2 x3 x4 x5 x6 lx
  have HVL : Hid ((us.map a.pres).length = us.length) := List.length_map ..
  generalize us.map a.pres = vs at *
  have lr := H6.out.res.lt
  have r0_ := H6.out.res.cell' (i := 0) rfl
  have r1_ := H6.out.res.cell' (i := 1) rfl
  have r2_ := H6.out.res.cell' (i := 2) rfl
  have r3_ := H6.out.res.cell' (i := 3) rfl
  have q0_ := H6.out.res.frozen 0
  have q1_ := H6.out.res.frozen 1
  have q2_ := H6.out.res.frozen 2
  have q3_ := H6.out.res.frozen 3
  have l7_ := H6.out.rr.lt
  have s0_ := H6.out.rr.cell' (i := 0) rfl
  have s1_ := H6.out.rr.cell' (i := 1) rfl
  have s2_ := H6.out.rr.cell' (i := 2) rfl
  have s3_ := H6.out.rr.cell' (i := 3) rfl
  go_wp2_with fail
  have HW := rwrap rfl H6.out.res H6.out.tab H6.out.gone H6.out.nr (.int .i64 0) (.slice A5 us.length c5) (.slice none 0 0) (.bool false)
  generalize (((wc.setCell ⟨w.heap.size + 1, 0, none⟩ (.int .i64 0)).setCell ⟨w.heap.size + 1, 1, none⟩ (.slice A5 us.length c5)).setCell ⟨w.heap.size + 1, 2, none⟩ (.slice none 0 0)).setCell ⟨w.heap.size + 1, 3, none⟩ (.bool false) = wz at *
  have n0 := HW.box.cell' (i := 0) rfl
  have n1 := HW.box.cell' (i := 1) rfl
  have n2 := HW.box.cell' (i := 2) rfl
  have n3 := HW.box.cell' (i := 3) rfl
  refine bodyPost_ret (v := .agg #[.int .i64 0, .slice A5 us.length c5, .slice none 0 0, .bool false]) (by simp [results, Tryz.results13, go_sem, n0, n1, n2, n3]) rfl ?_
  exact ⟨A5, c5, none, 0, (by show Ending.returned _ = .returned (.agg #[.int .i64 0, .slice A5 vs.length c5, .slice none 0 0, .bool false]); rw [HVL.out]), (HW.seq (by omega) HS6.out).from_ (by omega), fun h => absurd rfl h, Q, HW.tab.more (Nat.le_succ N), HW.gone⟩
set_option maxRecDepth 100000 in
set_option maxHeartbeats 4000000 in
theorem rdo6 (user : ByteArray) (id st pr ttl : Int) (A : Option Addr) (c : Nat) (us : List ByteArray) (h : RTab w base Q N t x a) (hN : N ≤ 990) (ho : a.Ok bd) (hbd : bd ≤ 380) (_hbw : base ≤ w.heap.size) {who : Nat} (hw : who < 8) (hin : OpW.In ⟨6, user, id, st, pr, ttl, A, c, us⟩ w) (hg : goodB ⟨6, user, id, st, pr, ttl, A, c, us⟩ = true) (hul : us.length ≤ 1000) (hcl : a.closed = false) (hri : ∀ k, k < a.n → ∀ i, i < 8 → Rises OmapU.lt ((a.fd k).wat i)) :
  Calls Tryz.prog 13 #[.pointer (some ⟨t, 0, none⟩), .int .i64 (who : Int), .agg #[.int .i64 6, .string user, .int .i64 id, .int .i64 st, .int .i64 pr, .int .u64 ttl, .slice A us.length c]] w (RPolled w base Q (N + 1) t x (a.ask who ⟨6, user, id, st, pr, ttl, A, c, us⟩).1 (a.ask who ⟨6, user, id, st, pr, ttl, A, c, us⟩).2) := by
 have HUL : Hid (us.length ≤ 1000) := by show _ ≤ _; exact hul
 have HRI := Lib.hid hri
 clear hri
 rw [show a.ask who ⟨6, user, id, st, pr, ttl, A, c, us⟩ = ((a.watch who user).1, Rep.of (a.watch who user).2) from by simp [Mo.ask, hcl]]
 have dw0 : decide ((who : Int) < 0) = false := by simp
 have dw7 : decide ((7 : Int) < (who : Int)) = false := by simp; omega
 have bb := ((Below.refl w.heap.size w).alloc (Nat.le_refl _) (.cells #[.int .i64 6, .string user, .int .i64 id, .int .i64 st, .int .i64 pr, .int .u64 ttl, .slice A us.length c] 37)).alloc (by simp) (.cells #[.int .i64 0, .slice none 0 0, .slice none 0 0, .bool false] 43)
 have HX1 : Hid (Is ((w.alloc (.cells #[.int .i64 6, .string user, .int .i64 id, .int .i64 st, .int .i64 pr, .int .u64 ttl, .slice A us.length c] 37)).alloc (.cells #[.int .i64 0, .slice none 0 0, .slice none 0 0, .bool false] 43)) w.heap.size 37 #[.int .i64 6, .string user, .int .i64 id, .int .i64 st, .int .i64 pr, .int .u64 ttl, .slice A us.length c]) := (Is.new w _ _ rfl).alloc _
 have HR1 : Hid (Is ((w.alloc (.cells #[.int .i64 6, .string user, .int .i64 id, .int .i64 st, .int .i64 pr, .int .u64 ttl, .slice A us.length c] 37)).alloc (.cells #[.int .i64 0, .slice none 0 0, .slice none 0 0, .bool false] 43)) (w.heap.size + 1) 43 #[.int .i64 0, .slice none 0 0, .slice none 0 0, .bool false]) := Is.new _ _ _ (by simp)
 have H1 := Lib.hid (h.below bb)
 have G1 : Hid (Gone w Q _ Q) := Gone.of_below bb
 have IN1 := Lib.hid (hin.below bb)
 have hok := Lib.hid h.ok
 have HO := Lib.hid ho
 have HU := Lib.hid hin
 have hsz1 : w.heap.size + 2 ≤ ((w.alloc (.cells #[.int .i64 6, .string user, .int .i64 id, .int .i64 st, .int .i64 pr, .int .u64 ttl, .slice A us.length c] 37)).alloc (.cells #[.int .i64 0, .slice none 0 0, .slice none 0 0, .bool false] 43)).heap.size := by simp
 have HBW1 := Lib.hid bb
 clear bb h ho hin
 go_enter Tryz.func13, Tryz.ntmps13
 go_wp2_with fail
 generalize ((w.alloc (.cells #[.int .i64 6, .string user, .int .i64 id, .int .i64 st, .int .i64 pr, .int .u64 ttl, .slice A us.length c] 37)).alloc (.cells #[.int .i64 0, .slice none 0 0, .slice none 0 0, .bool false] 43)) = w1 at *
 refine (rbad ⟨6, user, id, st, pr, ttl, A, c, us⟩ IN1.out (by first | omega | exact HUL.out) (r := false) (by rw [hg]; rfl)).mono ?_
 rintro e w2 ⟨rfl, b2⟩
 have HX2 := Lib.hid (HX1.out.below b2 HX1.out.lt)
 have HR2 := Lib.hid (HR1.out.below b2 HR1.out.lt)
 have H2 := Lib.hid (H1.out.below b2)
 have G2 := Lib.hid (G1.out.trans (Gone.of_below b2))
 have IN2 := Lib.hid (IN1.out.below b2)
 have hsz2 := Nat.le_trans hsz1 b2.size
 have HBW2 := Lib.hid (HBW1.out.trans (b2.mono HBW1.out.size))
 clear b2 HX1 HR1 H1 G1 IN1 hsz1 HBW1
 go_upto_region 4 with (fail)
 have H3 : Hid (RD w (w2.alloc (.cells #[.int .i64 0, .slice none 0 0, .slice none 0 0, .bool false] 43)) base Q Q N t x w2.heap.size #[.int .i64 6, .string user, .int .i64 id, .int .i64 st, .int .i64 pr, .int .u64 ttl, .slice A us.length c] #[.int .i64 0, .slice none 0 0, .slice none 0 0, .bool false] a) := by
  have b3 := (Below.refl w2.heap.size w2).alloc (Nat.le_refl _) (.cells #[.int .i64 0, .slice none 0 0, .slice none 0 0, .bool false] 43)
  exact ⟨H2.out.below b3, G2.out.trans (Gone.of_below b3), HX2.out.below b3 HX2.out.lt, HR2.out.below b3 HR2.out.lt, Is.new w2 _ _ rfl, fun hx => by have := (hok.out _ hx).2; omega, fun hx => by have := (hok.out _ hx).2; omega, fun hx => by have := (H2.out.ok _ hx).2; omega, by omega⟩
 have HBW3 := Lib.hid (HBW2.out.alloc HBW2.out.size (.cells #[.int .i64 0, .slice none 0 0, .slice none 0 0, .bool false] 43))
 have IN3 := Lib.hid (IN2.out.below ((Below.refl w2.heap.size w2).alloc (Nat.le_refl _) (.cells #[.int .i64 0, .slice none 0 0, .slice none 0 0, .bool false] 43)))
 generalize w2.alloc (.cells #[.int .i64 0, .slice none 0 0, .slice none 0 0, .bool false] 43) = w3 at *
 generalize w2.heap.size = g7 at *
 clear HX2 HR2 H2 G2 IN2 HBW2
 obtain ⟨b, f, cb, cf, ab, af, r, Rk, ps, hV⟩ := H3.out.tab
 have HV := Lib.hid hV
 clear hV
 have x0 : w3.cell? ⟨w.heap.size, 0, none⟩ = some (.int .i64 6) := H3.out.op.cell' rfl
 have x1 : w3.cell? ⟨w.heap.size, 1, none⟩ = some (.string user) := H3.out.op.cell' rfl
 have x2 : w3.cell? ⟨w.heap.size, 2, none⟩ = some (.int .i64 id) := H3.out.op.cell' rfl
 have x3 : w3.cell? ⟨w.heap.size, 3, none⟩ = some (.int .i64 st) := H3.out.op.cell' rfl
 have x4 : w3.cell? ⟨w.heap.size, 4, none⟩ = some (.int .i64 pr) := H3.out.op.cell' rfl
 have x5 : w3.cell? ⟨w.heap.size, 5, none⟩ = some (.int .u64 ttl) := H3.out.op.cell' rfl
 have x6 : w3.cell? ⟨w.heap.size, 6, none⟩ = some (.slice A us.length c) := H3.out.op.cell' rfl
 have lx := H3.out.op.lt
 have c9 : w3.cell? ⟨t, 9, none⟩ = some (.bool a.closed) := HV.out.box.cell' rfl
 have lt3 := HV.out.box.lt
 rw [hcl] at c9
 obtain ⟨k, hk⟩ : ∃ k, str user a.n = k := ⟨_, rfl⟩
 have hlt : k < a.n := hk ▸ str_lt user HO.out.n1
 have HK := Lib.hid hk
 have hn8 := HO.out.n8
 clear hk
 have HKS : Hid (∀ W', Below w3.heap.size w3 W' → W'.cell? ⟨w.heap.size, 1, none⟩ = some (.string user) ∧ W'.cell? ⟨t, 0, none⟩ = some (.int .i64 (a.n : Int))) := fun W' hb => ⟨(hb.cell (p := ⟨w.heap.size, 1, none⟩) lx).trans x1, HV.out.c hb rfl⟩
 have HKF : Hid (∀ W', Below w3.heap.size w3 W' → W'.cell? ⟨t, 11, none⟩ = some (.slice (some ⟨f, 0, none⟩) a.n cf) ∧ W'.cell? ⟨f, k, none⟩ = some (.pointer (some ⟨r k, 0, none⟩)) ∧ W'.cell? ⟨w.heap.size, 1, none⟩ = some (.string user) ∧ W'.cell? ⟨t, 3, none⟩ = some (.int .i64 a.lim)) := fun W' hb => ⟨HV.out.c hb rfl, HV.out.cq hb hlt, (hb.cell (p := ⟨w.heap.size, 1, none⟩) lx).trans x1, HV.out.c hb rfl⟩
 go_upto_block 2 with (fail)
 go_cut [7] (fun v7 wx => v7 = .pointer (some ⟨g7, 0, none⟩) ∧ ∃ Q', RD w wx base Q Q' (N + 1) t x g7 #[.int .i64 6, .string user, .int .i64 id, .int .i64 st, .int .i64 pr, .int .u64 ttl, .slice A us.length c] #[.int .i64 (a.watch who user).2, .slice none 0 0, .slice none 0 0, .bool false] (a.watch who user).1)
 case first =>
  have bd1 : Below w3.heap.size w3 w3.drew := Law.below_drewN (Below.refl _ _) 1
  have HD1 := Lib.hid bd1
  clear bd1
  go_wp2_with fail
  refine wp_region_held_drew (S := fun w' => w'.cell? ⟨w.heap.size, 1, none⟩ = some (.string user) ∧ w'.cell? ⟨t, 0, none⟩ = some (.int .i64 (a.n : Int))) (by kernel_rfl) (HKS.out _ HD1.out) (fun hS0 => ?_)
  refine Go.Law.tk 0 ⟨some 171, .fieldAddr 37 (.tmp 5) 1, _, _, _, _⟩ (v := .pointer (some ⟨w.heap.size, 1, none⟩)) hS0 ?_ ?_
  ·intro w' hSw
   go_simp
  try simp only [Go.Law.pz]
  refine Go.Law.tk 1 ⟨some 172, .load 9 (.tmp 171), _, _, _, _⟩ (v := .string user) hS0 ?_ ?_
  ·intro w' hSw
   obtain ⟨s0, s1⟩ := hSw
   go_simp
  try simp only [Go.Law.pz]
  refine Go.Law.tk 2 ⟨some 173, .move (.tmp 0), _, _, _, _⟩ (v := .pointer (some ⟨t, 0, none⟩)) hS0 ?_ ?_
  ·intro w' hSw
   go_simp
  try simp only [Go.Law.pz]
  refine Go.Law.tk 3 ⟨some 174, .nilCheck (.tmp 173), _, _, _, _⟩ (v := .pointer (some ⟨t, 0, none⟩)) hS0 ?_ ?_
  ·intro w' hSw
   go_simp
  try simp only [Go.Law.pz]
  refine Go.Law.tk 4 ⟨some 175, .fieldAddr 55 (.tmp 174) 0, _, _, _, _⟩ (v := .pointer (some ⟨t, 0, none⟩)) hS0 ?_ ?_
  ·intro w' hSw
   go_simp
  try simp only [Go.Law.pz]
  refine Go.Law.tk 5 ⟨some 176, .fieldAddr 24 (.tmp 175) 0, _, _, _, _⟩ (v := .pointer (some ⟨t, 0, none⟩)) hS0 ?_ ?_
  ·intro w' hSw
   go_simp
  try simp only [Go.Law.pz]
  refine Go.Law.tk 6 ⟨some 177, .load 3 (.tmp 176), _, _, _, _⟩ (v := .int .i64 (a.n : Int)) hS0 ?_ ?_
  ·intro w' hSw
   obtain ⟨s0, s1⟩ := hSw
   go_simp
  try simp only [Go.Law.pz]
  refine wpAnyH_ready (rs := [7]) (by kernel_rfl) (by simp) ?_
  refine AllReadyH.cons (o := ⟨some 178, .call { callee := .value (.func 34), args := #[.tmp 172, .tmp 177], argTypes := _ }, _, _, _, _⟩) rfl (fun K hK => ?_) AllReadyH.nil
  go_simp
  refine Calls.mono (rstripe user a.n _ HU.out.user hn8 HK.out) ?_
  rintro e wq ⟨rfl, rfl⟩
  go_wp2_with fail
  refine hK.out _ _ (HKS.out _ HD1.out) (fun hS1 => ?_)
  clear hK K
  try simp only [Go.Law.pz]
  refine Go.Law.tk 8 ⟨some 18, .assign (.tmp 178), _, _, _, _⟩ (v := .int .i64 (k : Int)) hS1 ?_ ?_
  ·intro w' hSw
   go_simp
  try simp only [Go.Law.pz]
  refine wpAnyH_done (by kernel_rfl) ?_ _
  clear hS0 hS1
  have H4 := Lib.hid (H3.out.below HD1.out)
  have HV4 := Lib.hid (HV.out.below HD1.out)
  clear HKS c9 lt3 x0 x1 x2 x3 x4 x5 x6 lx
  generalize w3.drew = w4 at *
  obtain ⟨nn, hnn⟩ : ∃ nn : Int, (a.watched who : Int) = nn := ⟨_, rfl⟩
  have HNN := Lib.hid hnn
  obtain ⟨bw, hbw⟩ : ∃ bw, (a.fd k).has who user = bw := ⟨_, rfl⟩
  have HBW := Lib.hid hbw
  clear hnn hbw
  have HWE : Hid (a.watch who user = if bw = false ∧ a.lim ≤ nn then (a, 4) else (a.feed1 k { a.fd k with wat := upd (a.fd k).wat who (putK OmapU.lt user 0 ((a.fd k).wat who)) }, 0)) := by show _ = _; unfold Mo.watch; rw [show str user a.n = k from HK.out, HBW.out, HNN.out]
  go_wp2_with fail
  go_loopw [19, 20] (fun vn vi wr => ∃ j : Nat, j ≤ a.n ∧ vi = .int .i64 j ∧ vn = .int .i64 (watchedUpto a who j : Int) ∧ Below w4.heap.size w4 wr) (fun _ vi _ => a.n - (intOf vi).toNat)
  case atStart => exact ⟨0, Nat.zero_le _, rfl, rfl, Below.refl _ _⟩
  case round =>
   obtain ⟨j, hj, rfl, rfl, hB⟩ := hrel
   have HB := Lib.hid hB
   have HVR := Lib.hid (HV4.out.below hB)
   clear hB
   have e11 : wr.cell? ⟨t, 11, none⟩ = some (.slice (some ⟨f, 0, none⟩) a.n cf) := HVR.out.box.cell' rfl
   have lt5 := HVR.out.box.lt
   have lf5 := HVR.out.core.frow.lt
   by_cases hjl : j < a.n
   ·have d1 : decide ((j : Int) < (a.n : Int)) = true := by simp; omega
    have ej : wr.cell? ⟨f, j, none⟩ = some (.pointer (some ⟨r j, 0, none⟩)) := HVR.out.core.frow.cell' (HVR.out.core.fat j hjl)
    have HNX := Lib.hid (watchedUpto_next a who j)
    have hfb := watchedUpto_small HO.out hbd hw (j := j) (by omega)
    have hfb2 := watchedUpto_small HO.out hbd hw (j := j + 1) (by omega)
    rw [HNX.out] at hfb2
    have HPL := Lib.hid ((HVR.out.core.inv j hjl).len hw)
    go_wp2_with fail
    refine (rCount (HVR.out.core.ref j hjl) (by have := (HVR.out.core.inv j hjl).lp; omega) (who : Int) (n := (((a.fd j).wat who).length : Int)) (by rw [HPL.out])).mono ?_
    rintro e w6 ⟨rfl, b6⟩
    have HB6 := Lib.hid (HB.out.trans (b6.mono HB.out.size))
    clear b6 HB HVR e11 lt5 lf5 ej
    generalize watchedUpto a who j = y1 at *
    generalize ((a.fd j).wat who).length = y2 at *
    go_wp2_with fail
    go_roundw
    case rel => exact ⟨j + 1, by omega, by go_num, by rw [HNX.out]; go_num, HB6.out⟩
    case measure => simp [intOf]; omega
   ·obtain rfl : j = a.n := by omega
    have d1 : decide ((a.n : Int) < (a.n : Int)) = false := by simp
    rw [show (watchedUpto a who a.n : Int) = nn from HNN.out]
    have HKR : Hid (∀ W', Below wr.heap.size wr W' → W'.cell? ⟨t, 11, none⟩ = some (.slice (some ⟨f, 0, none⟩) a.n cf) ∧ W'.cell? ⟨f, k, none⟩ = some (.pointer (some ⟨r k, 0, none⟩)) ∧ W'.cell? ⟨w.heap.size, 1, none⟩ = some (.string user) ∧ W'.cell? ⟨t, 3, none⟩ = some (.int .i64 a.lim)) := fun W' hb => HKF.out W' (HD1.out.trans ((HB.out.trans (hb.mono HB.out.size)).mono HD1.out.size))
    have HDR : Hid (Below wr.heap.size wr wr.drew) := Law.below_drewN (Below.refl _ _) 1
    have HVD := Lib.hid (HVR.out.below HDR.out)
    have H6 := Lib.hid ((H4.out.below HB.out).below HDR.out)
    have HPI := Lib.hid (HVR.out.core.inv k hlt)
    have hpl : (ps k).length ≤ 999 := by have := HPI.out.lp; omega
    have HHS : Hid (bw = true ↔ ((who : Int), user) ∈ ps k) := by show _ ↔ _; rw [← HBW.out]; exact HPI.out.has hw user
    have HRR : Hid (Rises OmapU.lt ((a.fd k).wat who)) := HRI.out k hlt who hw
    clear HVR HV4 H4
    go_wp2_with fail
    clear e11 lt5 lf5
    refine wp_region_held_drew (S := fun w' => w'.cell? ⟨t, 11, none⟩ = some (.slice (some ⟨f, 0, none⟩) a.n cf) ∧ w'.cell? ⟨f, k, none⟩ = some (.pointer (some ⟨r k, 0, none⟩)) ∧ w'.cell? ⟨w.heap.size, 1, none⟩ = some (.string user) ∧ w'.cell? ⟨t, 3, none⟩ = some (.int .i64 a.lim)) (by kernel_rfl) (HKR.out _ HDR.out) (fun hS0 => ?_)
    refine Go.Law.tk 0 ⟨some 199, .move (.tmp 0), _, _, _, _⟩ (v := .pointer (some ⟨t, 0, none⟩)) hS0 ?_ ?_
    ·intro w' hSw
     go_simp
    try simp only [Go.Law.pz]
    refine Go.Law.tk 1 ⟨some 200, .nilCheck (.tmp 199), _, _, _, _⟩ (v := .pointer (some ⟨t, 0, none⟩)) hS0 ?_ ?_
    ·intro w' hSw
     go_simp
    try simp only [Go.Law.pz]
    refine Go.Law.tk 2 ⟨some 201, .fieldAddr 55 (.tmp 200) 3, _, _, _, _⟩ (v := .pointer (some ⟨t, 11, none⟩)) hS0 ?_ ?_
    ·intro w' hSw
     go_simp
    try simp only [Go.Law.pz]
    refine Go.Law.tk 3 ⟨some 202, .load 53 (.tmp 201), _, _, _, _⟩ (v := .slice (some ⟨f, 0, none⟩) a.n cf) hS0 ?_ ?_
    ·intro w' hSw
     obtain ⟨s0, s1, s2, s3⟩ := hSw
     go_simp
    try simp only [Go.Law.pz]
    refine Go.Law.tk 4 ⟨some 203, .move (.tmp 18), _, _, _, _⟩ (v := .int .i64 (k : Int)) hS0 ?_ ?_
    ·intro w' hSw
     go_simp
    try simp only [Go.Law.pz]
    refine Go.Law.tk 5 ⟨some 204, .indexAddr 53 (.tmp 202) (.tmp 203), _, _, _, _⟩ (v := .pointer (some ⟨f, k, none⟩)) hS0 ?_ ?_
    ·intro w' hSw
     go_simp; (try (intro h8; omega))
    try simp only [Go.Law.pz]
    refine Go.Law.tk 6 ⟨some 205, .load 76 (.tmp 204), _, _, _, _⟩ (v := .pointer (some ⟨r k, 0, none⟩)) hS0 ?_ ?_
    ·intro w' hSw
     obtain ⟨s0, s1, s2, s3⟩ := hSw
     go_simp
    try simp only [Go.Law.pz]
    refine Go.Law.tk 7 ⟨some 206, .move (.tmp 1), _, _, _, _⟩ (v := .int .i64 (who : Int)) hS0 ?_ ?_
    ·intro w' hSw
     go_simp
    try simp only [Go.Law.pz]
    refine Go.Law.tk 8 ⟨some 207, .fieldAddr 37 (.tmp 5) 1, _, _, _, _⟩ (v := .pointer (some ⟨w.heap.size, 1, none⟩)) hS0 ?_ ?_
    ·intro w' hSw
     go_simp
    try simp only [Go.Law.pz]
    refine Go.Law.tk 9 ⟨some 208, .load 9 (.tmp 207), _, _, _, _⟩ (v := .string user) hS0 ?_ ?_
    ·intro w' hSw
     obtain ⟨s0, s1, s2, s3⟩ := hSw
     go_simp
    try simp only [Go.Law.pz]
    generalize hwd : wr.drew = wd at *
    refine wpAnyH_ready (rs := [10]) (by kernel_rfl) (by simp) ?_
    refine AllReadyH.cons (o := ⟨some 209, .call { callee := .value (.func 37), args := #[.tmp 205, .tmp 206, .tmp 208], argTypes := _ }, _, _, _, _⟩) rfl (fun K hK => ?_) AllReadyH.nil
    go_simp
    refine Calls.mono (rWatching (HVD.out.core.ref k hlt) (by omega) (who : Int) user (res := bw) HHS.out) ?_
    rintro e w7 ⟨rfl, b7⟩
    have HB7 := Lib.hid (HDR.out.trans (b7.mono HDR.out.size))
    have HV7 := Lib.hid (HVD.out.below b7)
    have H7 := Lib.hid (H6.out.below b7)
    clear b7
    go_wp2_with fail
    refine hK.out _ _ (HKR.out _ HB7.out) (fun hS1 => ?_)
    clear hK K
    try simp only [Go.Law.pz]
    clear hS0 HVD H6 hwd
    cases bw with
    | true =>
      refine Go.Law.tk 11 ⟨some 210, .unOp .not 4 (.tmp 209), _, _, _, _⟩ (v := .bool false) hS1 ?_ ?_
      ·intro w' hSw
       go_simp
      try simp only [Go.Law.pz]
      refine Go.Law.tk 12 ⟨some 211, .move (.tmp 210), _, _, _, _⟩ (v := .bool false) hS1 ?_ ?_
      ·intro w' hSw
       go_simp
      try simp only [Go.Law.pz]
      refine Go.Law.sk 13 ⟨some 212, .move (.tmp 19), _, _, _, _⟩ hS1 ?_
      try simp only [Go.Law.pz]
      refine Go.Law.sk 14 ⟨some 213, .move (.tmp 0), _, _, _, _⟩ hS1 ?_
      try simp only [Go.Law.pz]
      refine Go.Law.sk 15 ⟨some 214, .nilCheck (.tmp 213), _, _, _, _⟩ hS1 ?_
      try simp only [Go.Law.pz]
      refine Go.Law.sk 16 ⟨some 215, .fieldAddr 55 (.tmp 214) 0, _, _, _, _⟩ hS1 ?_
      try simp only [Go.Law.pz]
      refine Go.Law.sk 17 ⟨some 216, .fieldAddr 24 (.tmp 215) 3, _, _, _, _⟩ hS1 ?_
      try simp only [Go.Law.pz]
      refine Go.Law.sk 18 ⟨some 217, .load 3 (.tmp 216), _, _, _, _⟩ hS1 ?_
      try simp only [Go.Law.pz]
      refine Go.Law.sk 19 ⟨some 218, .binOp .geq 3 (.tmp 212) (.tmp 217) 3, _, _, _, _⟩ hS1 ?_
      try simp only [Go.Law.pz]
      refine Go.Law.tk 20 ⟨some 219, .pick (.tmp 211) (.tmp 218) (.const (.bool false)), _, _, _, _⟩ (v := .bool false) hS1 ?_ ?_
      ·intro w' hSw
       go_simp
      try simp only [Go.Law.pz]
      refine wpAnyH_done (by kernel_rfl) ?_ _
      clear hS1
      rw [if_neg (fun h => Bool.noConfusion h.1)] at HWE
      have HKW : Hid (∀ W', Below w7.heap.size w7 W' → W'.cell? ⟨t, 11, none⟩ = some (.slice (some ⟨f, 0, none⟩) a.n cf) ∧ W'.cell? ⟨f, k, none⟩ = some (.pointer (some ⟨r k, 0, none⟩)) ∧ W'.cell? ⟨w.heap.size, 1, none⟩ = some (.string user) ∧ W'.cell? ⟨t, 3, none⟩ = some (.int .i64 a.lim)) := fun W' hb => HKR.out W' (HB7.out.trans (hb.mono HB7.out.size))
      have HDW : Hid (Below w7.heap.size w7 w7.drew) := Law.below_drewN (Below.refl _ _) 1
      have HV8 := Lib.hid (HV7.out.below HDW.out)
      have H8 := Lib.hid (H7.out.below HDW.out)
      go_wp2_with fail
      refine wp_region_held_drew (S := fun w' => w'.cell? ⟨t, 11, none⟩ = some (.slice (some ⟨f, 0, none⟩) a.n cf) ∧ w'.cell? ⟨f, k, none⟩ = some (.pointer (some ⟨r k, 0, none⟩)) ∧ w'.cell? ⟨w.heap.size, 1, none⟩ = some (.string user) ∧ w'.cell? ⟨t, 3, none⟩ = some (.int .i64 a.lim)) (by kernel_rfl) (HKW.out _ HDW.out) (fun hS0 => ?_)
      refine Go.Law.tk 0 ⟨some 221, .move (.tmp 0), _, _, _, _⟩ (v := .pointer (some ⟨t, 0, none⟩)) hS0 ?_ ?_
      ·intro w' hSw
       go_simp
      try simp only [Go.Law.pz]
      refine Go.Law.tk 1 ⟨some 222, .nilCheck (.tmp 221), _, _, _, _⟩ (v := .pointer (some ⟨t, 0, none⟩)) hS0 ?_ ?_
      ·intro w' hSw
       go_simp
      try simp only [Go.Law.pz]
      refine Go.Law.tk 2 ⟨some 223, .fieldAddr 55 (.tmp 222) 3, _, _, _, _⟩ (v := .pointer (some ⟨t, 11, none⟩)) hS0 ?_ ?_
      ·intro w' hSw
       go_simp
      try simp only [Go.Law.pz]
      refine Go.Law.tk 3 ⟨some 224, .load 53 (.tmp 223), _, _, _, _⟩ (v := .slice (some ⟨f, 0, none⟩) a.n cf) hS0 ?_ ?_
      ·intro w' hSw
       obtain ⟨s0, s1, s2, s3⟩ := hSw
       go_simp
      try simp only [Go.Law.pz]
      refine Go.Law.tk 4 ⟨some 225, .move (.tmp 18), _, _, _, _⟩ (v := .int .i64 (k : Int)) hS0 ?_ ?_
      ·intro w' hSw
       go_simp
      try simp only [Go.Law.pz]
      refine Go.Law.tk 5 ⟨some 226, .indexAddr 53 (.tmp 224) (.tmp 225), _, _, _, _⟩ (v := .pointer (some ⟨f, k, none⟩)) hS0 ?_ ?_
      ·intro w' hSw
       go_simp; (try (intro h8; omega))
      try simp only [Go.Law.pz]
      refine Go.Law.tk 6 ⟨some 227, .load 76 (.tmp 226), _, _, _, _⟩ (v := .pointer (some ⟨r k, 0, none⟩)) hS0 ?_ ?_
      ·intro w' hSw
       obtain ⟨s0, s1, s2, s3⟩ := hSw
       go_simp
      try simp only [Go.Law.pz]
      refine Go.Law.tk 7 ⟨some 228, .move (.tmp 1), _, _, _, _⟩ (v := .int .i64 (who : Int)) hS0 ?_ ?_
      ·intro w' hSw
       go_simp
      try simp only [Go.Law.pz]
      refine Go.Law.tk 8 ⟨some 229, .fieldAddr 37 (.tmp 5) 1, _, _, _, _⟩ (v := .pointer (some ⟨w.heap.size, 1, none⟩)) hS0 ?_ ?_
      ·intro w' hSw
       go_simp
      try simp only [Go.Law.pz]
      refine Go.Law.tk 9 ⟨some 230, .load 9 (.tmp 229), _, _, _, _⟩ (v := .string user) hS0 ?_ ?_
      ·intro w' hSw
       obtain ⟨s0, s1, s2, s3⟩ := hSw
       go_simp
      try simp only [Go.Law.pz]
      generalize w7.drew = w8 at *
      refine wpAnyH_ready (rs := [10]) (by kernel_rfl) (by simp) ?_
      refine AllReadyH.cons (o := ⟨some 231, .call { callee := .value (.func 38), args := #[.tmp 227, .tmp 228, .tmp 230], argTypes := _ }, _, _, _, _⟩) rfl (fun K hK => ?_) AllReadyH.nil
      go_simp
      refine Calls.mono (rWatch_old (HV8.out.core.ref k hlt) hpl hw user (HHS.out.1 trivial)) ?_
      rintro e w9 ⟨rfl, R9, hR9, hW9⟩
      have hgo := HV8.out.go hlt (Nat.le_succ N) (s' := { a.fd k with wat := upd (a.fd k).wat who (putK OmapU.lt user 0 ((a.fd k).wat who)) }) hR9 hW9 (HPI.out.watchOld hw HRR.out user (HHS.out.1 trivial))
      have H9 := Lib.hid (H8.out.go hgo.1.tab hgo.2)
      have HQ11 : Hid (w9.cell? ⟨t, 11, none⟩ = some (.slice (some ⟨f, 0, none⟩) a.n cf)) := hgo.1.box.cell' rfl
      have HQf : Hid (w9.cell? ⟨f, k, none⟩ = some (.pointer (some ⟨r k, 0, none⟩))) := hgo.1.core.frow.cell' (hgo.1.core.fat k hlt)
      have HQx : Hid (w9.cell? ⟨w.heap.size, 1, none⟩ = some (.string user)) := H9.out.op.cell' rfl
      have HQl : Hid (w9.cell? ⟨t, 3, none⟩ = some (.int .i64 a.lim)) := hgo.1.box.cell' rfl
      clear hgo hR9 hW9
      go_wp2_with fail
      refine hK.out _ _ ⟨HQ11.out, HQf.out, HQx.out, HQl.out⟩ (fun hS2 => ?_)
      clear hK K
      try simp only [Go.Law.pz]
      refine wpAnyH_done (by kernel_rfl) ?_ _
      go_wp2_with fail
      go_meet
      exact ⟨rfl, _, by rw [HWE.out]; exact H9.out⟩
    | false =>
      refine Go.Law.tk 11 ⟨some 210, .unOp .not 4 (.tmp 209), _, _, _, _⟩ (v := .bool true) hS1 ?_ ?_
      ·intro w' hSw
       go_simp
      try simp only [Go.Law.pz]
      refine Go.Law.tk 12 ⟨some 211, .move (.tmp 210), _, _, _, _⟩ (v := .bool true) hS1 ?_ ?_
      ·intro w' hSw
       go_simp
      try simp only [Go.Law.pz]
      refine Go.Law.tk 13 ⟨some 212, .move (.tmp 19), _, _, _, _⟩ (v := .int .i64 nn) hS1 ?_ ?_
      ·intro w' hSw
       go_simp
      try simp only [Go.Law.pz]
      refine Go.Law.tk 14 ⟨some 213, .move (.tmp 0), _, _, _, _⟩ (v := .pointer (some ⟨t, 0, none⟩)) hS1 ?_ ?_
      ·intro w' hSw
       go_simp
      try simp only [Go.Law.pz]
      refine Go.Law.tk 15 ⟨some 214, .nilCheck (.tmp 213), _, _, _, _⟩ (v := .pointer (some ⟨t, 0, none⟩)) hS1 ?_ ?_
      ·intro w' hSw
       go_simp
      try simp only [Go.Law.pz]
      refine Go.Law.tk 16 ⟨some 215, .fieldAddr 55 (.tmp 214) 0, _, _, _, _⟩ (v := .pointer (some ⟨t, 0, none⟩)) hS1 ?_ ?_
      ·intro w' hSw
       go_simp
      try simp only [Go.Law.pz]
      refine Go.Law.tk 17 ⟨some 216, .fieldAddr 24 (.tmp 215) 3, _, _, _, _⟩ (v := .pointer (some ⟨t, 3, none⟩)) hS1 ?_ ?_
      ·intro w' hSw
       go_simp
      try simp only [Go.Law.pz]
      refine Go.Law.tk 18 ⟨some 217, .load 3 (.tmp 216), _, _, _, _⟩ (v := .int .i64 a.lim) hS1 ?_ ?_
      ·intro w' hSw
       obtain ⟨s0, s1, s2, s3⟩ := hSw
       go_simp
      try simp only [Go.Law.pz]
      refine Go.Law.tk 19 ⟨some 218, .binOp .geq 3 (.tmp 212) (.tmp 217) 3, _, _, _, _⟩ (v := .bool (decide (a.lim ≤ nn))) hS1 ?_ ?_
      ·intro w' hSw
       go_simp
      try simp only [Go.Law.pz]
      refine Go.Law.tk 20 ⟨some 219, .pick (.tmp 211) (.tmp 218) (.const (.bool false)), _, _, _, _⟩ (v := .bool (decide (a.lim ≤ nn))) hS1 ?_ ?_
      ·intro w' hSw
       go_simp
      try simp only [Go.Law.pz]
      refine wpAnyH_done (by kernel_rfl) ?_ _
      clear hS1
      by_cases hlim : a.lim ≤ nn
      ·have dl : decide (a.lim ≤ nn) = true := by simpa using hlim
       rw [if_pos ⟨rfl, hlim⟩] at HWE
       rw [dl]
       have HP7 := Lib.hid (H7.out.put 0 (.int .i64 4) rfl)
       have l77 := H7.out.rr.lt
       have f77 := H7.out.rr.frozen 0
       have c77 := H7.out.rr.cell' (i := 0) rfl
       go_wp2_with fail
       go_meet
       have HT := HP7.out
       exact ⟨rfl, Q, by rw [HWE.out]; exact ⟨HT.tab.more (Nat.le_succ N), HT.gone, HT.op, HT.res, HT.rr, HT.nx, HT.nr, HT.n7, HT.l7⟩⟩
      ·have dl : decide (a.lim ≤ nn) = false := by simpa using hlim
       rw [if_neg (fun h => hlim h.2)] at HWE
       rw [dl]
       have HKW : Hid (∀ W', Below w7.heap.size w7 W' → W'.cell? ⟨t, 11, none⟩ = some (.slice (some ⟨f, 0, none⟩) a.n cf) ∧ W'.cell? ⟨f, k, none⟩ = some (.pointer (some ⟨r k, 0, none⟩)) ∧ W'.cell? ⟨w.heap.size, 1, none⟩ = some (.string user) ∧ W'.cell? ⟨t, 3, none⟩ = some (.int .i64 a.lim)) := fun W' hb => HKR.out W' (HB7.out.trans (hb.mono HB7.out.size))
       have HDW : Hid (Below w7.heap.size w7 w7.drew) := Law.below_drewN (Below.refl _ _) 1
       have HV8 := Lib.hid (HV7.out.below HDW.out)
       have H8 := Lib.hid (H7.out.below HDW.out)
       go_wp2_with fail
       refine wp_region_held_drew (S := fun w' => w'.cell? ⟨t, 11, none⟩ = some (.slice (some ⟨f, 0, none⟩) a.n cf) ∧ w'.cell? ⟨f, k, none⟩ = some (.pointer (some ⟨r k, 0, none⟩)) ∧ w'.cell? ⟨w.heap.size, 1, none⟩ = some (.string user) ∧ w'.cell? ⟨t, 3, none⟩ = some (.int .i64 a.lim)) (by kernel_rfl) (HKW.out _ HDW.out) (fun hS0 => ?_)
       refine Go.Law.tk 0 ⟨some 221, .move (.tmp 0), _, _, _, _⟩ (v := .pointer (some ⟨t, 0, none⟩)) hS0 ?_ ?_
       ·intro w' hSw
        go_simp
       try simp only [Go.Law.pz]
       refine Go.Law.tk 1 ⟨some 222, .nilCheck (.tmp 221), _, _, _, _⟩ (v := .pointer (some ⟨t, 0, none⟩)) hS0 ?_ ?_
       ·intro w' hSw
        go_simp
       try simp only [Go.Law.pz]
       refine Go.Law.tk 2 ⟨some 223, .fieldAddr 55 (.tmp 222) 3, _, _, _, _⟩ (v := .pointer (some ⟨t, 11, none⟩)) hS0 ?_ ?_
       ·intro w' hSw
        go_simp
       try simp only [Go.Law.pz]
       refine Go.Law.tk 3 ⟨some 224, .load 53 (.tmp 223), _, _, _, _⟩ (v := .slice (some ⟨f, 0, none⟩) a.n cf) hS0 ?_ ?_
       ·intro w' hSw
        obtain ⟨s0, s1, s2, s3⟩ := hSw
        go_simp
       try simp only [Go.Law.pz]
       refine Go.Law.tk 4 ⟨some 225, .move (.tmp 18), _, _, _, _⟩ (v := .int .i64 (k : Int)) hS0 ?_ ?_
       ·intro w' hSw
        go_simp
       try simp only [Go.Law.pz]
       refine Go.Law.tk 5 ⟨some 226, .indexAddr 53 (.tmp 224) (.tmp 225), _, _, _, _⟩ (v := .pointer (some ⟨f, k, none⟩)) hS0 ?_ ?_
       ·intro w' hSw
        go_simp; (try (intro h8; omega))
       try simp only [Go.Law.pz]
       refine Go.Law.tk 6 ⟨some 227, .load 76 (.tmp 226), _, _, _, _⟩ (v := .pointer (some ⟨r k, 0, none⟩)) hS0 ?_ ?_
       ·intro w' hSw
        obtain ⟨s0, s1, s2, s3⟩ := hSw
        go_simp
       try simp only [Go.Law.pz]
       refine Go.Law.tk 7 ⟨some 228, .move (.tmp 1), _, _, _, _⟩ (v := .int .i64 (who : Int)) hS0 ?_ ?_
       ·intro w' hSw
        go_simp
       try simp only [Go.Law.pz]
       refine Go.Law.tk 8 ⟨some 229, .fieldAddr 37 (.tmp 5) 1, _, _, _, _⟩ (v := .pointer (some ⟨w.heap.size, 1, none⟩)) hS0 ?_ ?_
       ·intro w' hSw
        go_simp
       try simp only [Go.Law.pz]
       refine Go.Law.tk 9 ⟨some 230, .load 9 (.tmp 229), _, _, _, _⟩ (v := .string user) hS0 ?_ ?_
       ·intro w' hSw
        obtain ⟨s0, s1, s2, s3⟩ := hSw
        go_simp
       try simp only [Go.Law.pz]
       generalize w7.drew = w8 at *
       refine wpAnyH_ready (rs := [10]) (by kernel_rfl) (by simp) ?_
       refine AllReadyH.cons (o := ⟨some 231, .call { callee := .value (.func 38), args := #[.tmp 227, .tmp 228, .tmp 230], argTypes := _ }, _, _, _, _⟩) rfl (fun K hK => ?_) AllReadyH.nil
       go_simp
       refine Calls.mono (rWatch_new (HV8.out.core.ref k hlt) hpl hw user (fun hm => Bool.noConfusion (HHS.out.2 hm))) ?_
       rintro e w9 ⟨rfl, R9, hR9, hW9⟩
       have hgo := HV8.out.go hlt (Nat.le_succ N) (s' := { a.fd k with wat := upd (a.fd k).wat who (putK OmapU.lt user 0 ((a.fd k).wat who)) }) hR9 hW9 (HPI.out.watchNew hw user (fun hm => Bool.noConfusion (HHS.out.2 hm)))
       have H9 := Lib.hid (H8.out.go hgo.1.tab hgo.2)
       have HQ11 : Hid (w9.cell? ⟨t, 11, none⟩ = some (.slice (some ⟨f, 0, none⟩) a.n cf)) := hgo.1.box.cell' rfl
       have HQf : Hid (w9.cell? ⟨f, k, none⟩ = some (.pointer (some ⟨r k, 0, none⟩))) := hgo.1.core.frow.cell' (hgo.1.core.fat k hlt)
       have HQx : Hid (w9.cell? ⟨w.heap.size, 1, none⟩ = some (.string user)) := H9.out.op.cell' rfl
       have HQl : Hid (w9.cell? ⟨t, 3, none⟩ = some (.int .i64 a.lim)) := hgo.1.box.cell' rfl
       clear hgo hR9 hW9
       go_wp2_with fail
       refine hK.out _ _ ⟨HQ11.out, HQf.out, HQx.out, HQl.out⟩ (fun hS2 => ?_)
       clear hK K
       try simp only [Go.Law.pz]
       refine wpAnyH_done (by kernel_rfl) ?_ _
       go_wp2_with fail
       go_meet
       exact ⟨rfl, _, by rw [HWE.out]; exact H9.out⟩
 case rest =>
  obtain ⟨rfl, Q', h6⟩ := hcut
  have H6 := Lib.hid h6
  clear h6 c9 lt3 HV H3 HKS HKF x0 x1 x2 x3 x4 x5 x6 lx
  generalize a.watch who user = pr2 at *
  have lr := H6.out.res.lt
  have r0_ := H6.out.res.cell' (i := 0) rfl
  have r1_ := H6.out.res.cell' (i := 1) rfl
  have r2_ := H6.out.res.cell' (i := 2) rfl
  have r3_ := H6.out.res.cell' (i := 3) rfl
  have q0_ := H6.out.res.frozen 0
  have q1_ := H6.out.res.frozen 1
  have q2_ := H6.out.res.frozen 2
  have q3_ := H6.out.res.frozen 3
  have l7_ := H6.out.rr.lt
  have s0_ := H6.out.rr.cell' (i := 0) rfl
  have s1_ := H6.out.rr.cell' (i := 1) rfl
  have s2_ := H6.out.rr.cell' (i := 2) rfl
  have s3_ := H6.out.rr.cell' (i := 3) rfl
  go_wp2_with fail
  have HW := rwrap rfl H6.out.res H6.out.tab H6.out.gone H6.out.nr (.int .i64 pr2.2) (.slice none 0 0) (.slice none 0 0) (.bool false)
  generalize (((wc.setCell ⟨w.heap.size + 1, 0, none⟩ (.int .i64 pr2.2)).setCell ⟨w.heap.size + 1, 1, none⟩ (.slice none 0 0)).setCell ⟨w.heap.size + 1, 2, none⟩ (.slice none 0 0)).setCell ⟨w.heap.size + 1, 3, none⟩ (.bool false) = wz at *
  have n0 := HW.box.cell' (i := 0) rfl
  have n1 := HW.box.cell' (i := 1) rfl
  have n2 := HW.box.cell' (i := 2) rfl
  have n3 := HW.box.cell' (i := 3) rfl
  refine bodyPost_ret (v := .agg #[.int .i64 pr2.2, .slice none 0 0, .slice none 0 0, .bool false]) (by simp [results, Tryz.results13, go_sem, n0, n1, n2, n3]) rfl ?_
  exact ⟨none, 0, none, 0, rfl, fun h => absurd rfl h, fun h => absurd rfl h, Q', HW.tab, HW.gone⟩
set_option maxRecDepth 100000 in
set_option maxHeartbeats 4000000 in
theorem rdo7 (user : ByteArray) (id st pr ttl : Int) (A : Option Addr) (c : Nat) (us : List ByteArray) (h : RTab w base Q N t x a) (hN : N ≤ 990) (ho : a.Ok bd) (_hbd : bd ≤ 380) (_hbw : base ≤ w.heap.size) {who : Nat} (hw : who < 8) (hin : OpW.In ⟨7, user, id, st, pr, ttl, A, c, us⟩ w) (hg : goodB ⟨7, user, id, st, pr, ttl, A, c, us⟩ = true) (hul : us.length ≤ 1000) (hcl : a.closed = false) :
  Calls Tryz.prog 13 #[.pointer (some ⟨t, 0, none⟩), .int .i64 (who : Int), .agg #[.int .i64 7, .string user, .int .i64 id, .int .i64 st, .int .i64 pr, .int .u64 ttl, .slice A us.length c]] w (RPolled w base Q (N + 1) t x (a.ask who ⟨7, user, id, st, pr, ttl, A, c, us⟩).1 (a.ask who ⟨7, user, id, st, pr, ttl, A, c, us⟩).2) := by
 have HUL : Hid (us.length ≤ 1000) := by show _ ≤ _; exact hul
 rw [show a.ask who ⟨7, user, id, st, pr, ttl, A, c, us⟩ = (a.unwatch who user, Rep.of 0) from by simp [Mo.ask, hcl]]
 have dw0 : decide ((who : Int) < 0) = false := by simp
 have dw7 : decide ((7 : Int) < (who : Int)) = false := by simp; omega
 have bb := ((Below.refl w.heap.size w).alloc (Nat.le_refl _) (.cells #[.int .i64 7, .string user, .int .i64 id, .int .i64 st, .int .i64 pr, .int .u64 ttl, .slice A us.length c] 37)).alloc (by simp) (.cells #[.int .i64 0, .slice none 0 0, .slice none 0 0, .bool false] 43)
 have HX1 : Hid (Is ((w.alloc (.cells #[.int .i64 7, .string user, .int .i64 id, .int .i64 st, .int .i64 pr, .int .u64 ttl, .slice A us.length c] 37)).alloc (.cells #[.int .i64 0, .slice none 0 0, .slice none 0 0, .bool false] 43)) w.heap.size 37 #[.int .i64 7, .string user, .int .i64 id, .int .i64 st, .int .i64 pr, .int .u64 ttl, .slice A us.length c]) := (Is.new w _ _ rfl).alloc _
 have HR1 : Hid (Is ((w.alloc (.cells #[.int .i64 7, .string user, .int .i64 id, .int .i64 st, .int .i64 pr, .int .u64 ttl, .slice A us.length c] 37)).alloc (.cells #[.int .i64 0, .slice none 0 0, .slice none 0 0, .bool false] 43)) (w.heap.size + 1) 43 #[.int .i64 0, .slice none 0 0, .slice none 0 0, .bool false]) := Is.new _ _ _ (by simp)
 have H1 := Lib.hid (h.below bb)
 have G1 : Hid (Gone w Q _ Q) := Gone.of_below bb
 have IN1 := Lib.hid (hin.below bb)
 have hok := Lib.hid h.ok
 have HO := Lib.hid ho
 have HU := Lib.hid hin
 have hsz1 : w.heap.size + 2 ≤ ((w.alloc (.cells #[.int .i64 7, .string user, .int .i64 id, .int .i64 st, .int .i64 pr, .int .u64 ttl, .slice A us.length c] 37)).alloc (.cells #[.int .i64 0, .slice none 0 0, .slice none 0 0, .bool false] 43)).heap.size := by simp
 have HBW1 := Lib.hid bb
 clear bb h ho hin
 go_enter Tryz.func13, Tryz.ntmps13
 go_wp2_with fail
 generalize ((w.alloc (.cells #[.int .i64 7, .string user, .int .i64 id, .int .i64 st, .int .i64 pr, .int .u64 ttl, .slice A us.length c] 37)).alloc (.cells #[.int .i64 0, .slice none 0 0, .slice none 0 0, .bool false] 43)) = w1 at *
 refine (rbad ⟨7, user, id, st, pr, ttl, A, c, us⟩ IN1.out (by first | omega | exact HUL.out) (r := false) (by rw [hg]; rfl)).mono ?_
 rintro e w2 ⟨rfl, b2⟩
 have HX2 := Lib.hid (HX1.out.below b2 HX1.out.lt)
 have HR2 := Lib.hid (HR1.out.below b2 HR1.out.lt)
 have H2 := Lib.hid (H1.out.below b2)
 have G2 := Lib.hid (G1.out.trans (Gone.of_below b2))
 have IN2 := Lib.hid (IN1.out.below b2)
 have hsz2 := Nat.le_trans hsz1 b2.size
 have HBW2 := Lib.hid (HBW1.out.trans (b2.mono HBW1.out.size))
 clear b2 HX1 HR1 H1 G1 IN1 hsz1 HBW1
 go_upto_region 4 with (fail)
 have H3 : Hid (RD w (w2.alloc (.cells #[.int .i64 0, .slice none 0 0, .slice none 0 0, .bool false] 43)) base Q Q N t x w2.heap.size #[.int .i64 7, .string user, .int .i64 id, .int .i64 st, .int .i64 pr, .int .u64 ttl, .slice A us.length c] #[.int .i64 0, .slice none 0 0, .slice none 0 0, .bool false] a) := by
  have b3 := (Below.refl w2.heap.size w2).alloc (Nat.le_refl _) (.cells #[.int .i64 0, .slice none 0 0, .slice none 0 0, .bool false] 43)
  exact ⟨H2.out.below b3, G2.out.trans (Gone.of_below b3), HX2.out.below b3 HX2.out.lt, HR2.out.below b3 HR2.out.lt, Is.new w2 _ _ rfl, fun hx => by have := (hok.out _ hx).2; omega, fun hx => by have := (hok.out _ hx).2; omega, fun hx => by have := (H2.out.ok _ hx).2; omega, by omega⟩
 have HBW3 := Lib.hid (HBW2.out.alloc HBW2.out.size (.cells #[.int .i64 0, .slice none 0 0, .slice none 0 0, .bool false] 43))
 have IN3 := Lib.hid (IN2.out.below ((Below.refl w2.heap.size w2).alloc (Nat.le_refl _) (.cells #[.int .i64 0, .slice none 0 0, .slice none 0 0, .bool false] 43)))
 generalize w2.alloc (.cells #[.int .i64 0, .slice none 0 0, .slice none 0 0, .bool false] 43) = w3 at *
 generalize w2.heap.size = g7 at *
 clear HX2 HR2 H2 G2 IN2 HBW2
 obtain ⟨b, f, cb, cf, ab, af, r, Rk, ps, hV⟩ := H3.out.tab
 have HV := Lib.hid hV
 clear hV
 have x0 : w3.cell? ⟨w.heap.size, 0, none⟩ = some (.int .i64 7) := H3.out.op.cell' rfl
 have x1 : w3.cell? ⟨w.heap.size, 1, none⟩ = some (.string user) := H3.out.op.cell' rfl
 have x2 : w3.cell? ⟨w.heap.size, 2, none⟩ = some (.int .i64 id) := H3.out.op.cell' rfl
 have x3 : w3.cell? ⟨w.heap.size, 3, none⟩ = some (.int .i64 st) := H3.out.op.cell' rfl
 have x4 : w3.cell? ⟨w.heap.size, 4, none⟩ = some (.int .i64 pr) := H3.out.op.cell' rfl
 have x5 : w3.cell? ⟨w.heap.size, 5, none⟩ = some (.int .u64 ttl) := H3.out.op.cell' rfl
 have x6 : w3.cell? ⟨w.heap.size, 6, none⟩ = some (.slice A us.length c) := H3.out.op.cell' rfl
 have lx := H3.out.op.lt
 have c9 : w3.cell? ⟨t, 9, none⟩ = some (.bool a.closed) := HV.out.box.cell' rfl
 have lt3 := HV.out.box.lt
 rw [hcl] at c9
 obtain ⟨k, hk⟩ : ∃ k, str user a.n = k := ⟨_, rfl⟩
 have hlt : k < a.n := hk ▸ str_lt user HO.out.n1
 have HK := Lib.hid hk
 have hn8 := HO.out.n8
 clear hk
 have HE : Hid (a.unwatch who user = { a with fd := upd a.fd k { a.fd k with wat := upd (a.fd k).wat who (outK user ((a.fd k).wat who)) } }) := by show _ = _; unfold Mo.unwatch Mo.feed1; rw [show str user a.n = k from HK.out]
 have HKF : Hid (∀ W', Below w3.heap.size w3 W' → W'.cell? ⟨t, 11, none⟩ = some (.slice (some ⟨f, 0, none⟩) a.n cf) ∧ W'.cell? ⟨f, k, none⟩ = some (.pointer (some ⟨r k, 0, none⟩)) ∧ W'.cell? ⟨w.heap.size, 1, none⟩ = some (.string user) ∧ W'.cell? ⟨t, 0, none⟩ = some (.int .i64 (a.n : Int))) := fun W' hb => ⟨HV.out.c hb rfl, HV.out.cq hb hlt, (hb.cell (p := ⟨w.heap.size, 1, none⟩) lx).trans x1, HV.out.c hb rfl⟩
 go_upto_block 2 with (fail)
 go_cut [7] (fun v7 wx => v7 = .pointer (some ⟨g7, 0, none⟩) ∧ ∃ Q', RD w wx base Q Q' (N + 1) t x g7 #[.int .i64 7, .string user, .int .i64 id, .int .i64 st, .int .i64 pr, .int .u64 ttl, .slice A us.length c] #[.int .i64 0, .slice none 0 0, .slice none 0 0, .bool false] (a.unwatch who user))
 case first =>
  have HD1 : Hid (Below w3.heap.size w3 w3.drew) := Law.below_drewN (Below.refl _ _) 1
  have H4 := Lib.hid (H3.out.below HD1.out)
  have HV4 := Lib.hid (HV.out.below HD1.out)
  have HPI := Lib.hid (HV.out.core.inv k hlt)
  have hpl : (ps k).length ≤ 1000 := by have := HPI.out.lp; omega
  go_wp2_with fail
  clear c9 lt3 HV H3 x0 x1 x2 x3 x4 x5 x6 lx
  refine wp_region_held_drew (S := fun w' => w'.cell? ⟨t, 11, none⟩ = some (.slice (some ⟨f, 0, none⟩) a.n cf) ∧ w'.cell? ⟨f, k, none⟩ = some (.pointer (some ⟨r k, 0, none⟩)) ∧ w'.cell? ⟨w.heap.size, 1, none⟩ = some (.string user) ∧ w'.cell? ⟨t, 0, none⟩ = some (.int .i64 (a.n : Int))) (by kernel_rfl) (HKF.out _ HD1.out) (fun hS0 => ?_)
  refine Go.Law.tk 0 ⟨some 234, .move (.tmp 0), _, _, _, _⟩ (v := .pointer (some ⟨t, 0, none⟩)) hS0 ?_ ?_
  ·intro w' hSw
   go_simp
  try simp only [Go.Law.pz]
  refine Go.Law.tk 1 ⟨some 235, .nilCheck (.tmp 234), _, _, _, _⟩ (v := .pointer (some ⟨t, 0, none⟩)) hS0 ?_ ?_
  ·intro w' hSw
   go_simp
  try simp only [Go.Law.pz]
  refine Go.Law.tk 2 ⟨some 236, .fieldAddr 55 (.tmp 235) 3, _, _, _, _⟩ (v := .pointer (some ⟨t, 11, none⟩)) hS0 ?_ ?_
  ·intro w' hSw
   go_simp
  try simp only [Go.Law.pz]
  refine Go.Law.tk 3 ⟨some 237, .load 53 (.tmp 236), _, _, _, _⟩ (v := .slice (some ⟨f, 0, none⟩) a.n cf) hS0 ?_ ?_
  ·intro w' hSw
   obtain ⟨s0, s1, s2, s3⟩ := hSw
   go_simp
  try simp only [Go.Law.pz]
  refine Go.Law.tk 4 ⟨some 238, .fieldAddr 37 (.tmp 5) 1, _, _, _, _⟩ (v := .pointer (some ⟨w.heap.size, 1, none⟩)) hS0 ?_ ?_
  ·intro w' hSw
   go_simp
  try simp only [Go.Law.pz]
  refine Go.Law.tk 5 ⟨some 239, .load 9 (.tmp 238), _, _, _, _⟩ (v := .string user) hS0 ?_ ?_
  ·intro w' hSw
   obtain ⟨s0, s1, s2, s3⟩ := hSw
   go_simp
  try simp only [Go.Law.pz]
  refine Go.Law.tk 6 ⟨some 240, .move (.tmp 0), _, _, _, _⟩ (v := .pointer (some ⟨t, 0, none⟩)) hS0 ?_ ?_
  ·intro w' hSw
   go_simp
  try simp only [Go.Law.pz]
  refine Go.Law.tk 7 ⟨some 241, .nilCheck (.tmp 240), _, _, _, _⟩ (v := .pointer (some ⟨t, 0, none⟩)) hS0 ?_ ?_
  ·intro w' hSw
   go_simp
  try simp only [Go.Law.pz]
  refine Go.Law.tk 8 ⟨some 242, .fieldAddr 55 (.tmp 241) 0, _, _, _, _⟩ (v := .pointer (some ⟨t, 0, none⟩)) hS0 ?_ ?_
  ·intro w' hSw
   go_simp
  try simp only [Go.Law.pz]
  refine Go.Law.tk 9 ⟨some 243, .fieldAddr 24 (.tmp 242) 0, _, _, _, _⟩ (v := .pointer (some ⟨t, 0, none⟩)) hS0 ?_ ?_
  ·intro w' hSw
   go_simp
  try simp only [Go.Law.pz]
  refine Go.Law.tk 10 ⟨some 244, .load 3 (.tmp 243), _, _, _, _⟩ (v := .int .i64 (a.n : Int)) hS0 ?_ ?_
  ·intro w' hSw
   obtain ⟨s0, s1, s2, s3⟩ := hSw
   go_simp
  try simp only [Go.Law.pz]
  refine Go.Law.tk 14 ⟨some 248, .move (.tmp 1), _, _, _, _⟩ (v := .int .i64 (who : Int)) hS0 ?_ ?_
  ·intro w' hSw
   go_simp
  try simp only [Go.Law.pz]
  refine Go.Law.tk 15 ⟨some 249, .fieldAddr 37 (.tmp 5) 1, _, _, _, _⟩ (v := .pointer (some ⟨w.heap.size, 1, none⟩)) hS0 ?_ ?_
  ·intro w' hSw
   go_simp
  try simp only [Go.Law.pz]
  refine Go.Law.tk 16 ⟨some 250, .load 9 (.tmp 249), _, _, _, _⟩ (v := .string user) hS0 ?_ ?_
  ·intro w' hSw
   obtain ⟨s0, s1, s2, s3⟩ := hSw
   go_simp
  try simp only [Go.Law.pz]
  generalize hwd : w3.drew = w4 at *
  refine wpAnyH_ready (rs := [11]) (by kernel_rfl) (by simp) ?_
  refine AllReadyH.cons (o := ⟨some 245, .call { callee := .value (.func 34), args := #[.tmp 239, .tmp 244], argTypes := _ }, _, _, _, _⟩) rfl (fun K hK => ?_) AllReadyH.nil
  go_simp
  refine Calls.mono (rstripe user a.n _ HU.out.user hn8 HK.out) ?_
  rintro e wq ⟨rfl, rfl⟩
  go_wp2_with fail
  refine hK.out _ _ (HKF.out _ HD1.out) (fun hS1 => ?_)
  clear hK K
  try simp only [Go.Law.pz]
  refine Go.Law.tk 12 ⟨some 246, .indexAddr 53 (.tmp 237) (.tmp 245), _, _, _, _⟩ (v := .pointer (some ⟨f, k, none⟩)) hS1 ?_ ?_
  ·intro w' hSw
   go_simp; (try (intro h8; omega))
  try simp only [Go.Law.pz]
  refine Go.Law.tk 13 ⟨some 247, .load 76 (.tmp 246), _, _, _, _⟩ (v := .pointer (some ⟨r k, 0, none⟩)) hS1 ?_ ?_
  ·intro w' hSw
   obtain ⟨s0, s1, s2, s3⟩ := hSw
   go_simp
  try simp only [Go.Law.pz]
  refine wpAnyH_ready (rs := [17]) (by kernel_rfl) (by simp) ?_
  refine AllReadyH.cons (o := ⟨some 251, .call { callee := .value (.func 39), args := #[.tmp 247, .tmp 248, .tmp 250], argTypes := _ }, _, _, _, _⟩) rfl (fun K hK => ?_) AllReadyH.nil
  go_simp
  refine Calls.mono (rUnwatch (HV4.out.core.ref k hlt) hpl (who : Int) user) ?_
  rintro e w9 ⟨rfl, R9, hR9, hW9⟩
  have hgo := HV4.out.go hlt (Nat.le_succ N) (s' := { a.fd k with wat := upd (a.fd k).wat who (outK user ((a.fd k).wat who)) }) hR9 hW9 (HPI.out.unwatch hw user)
  have H9 := Lib.hid (H4.out.go hgo.1.tab hgo.2)
  have HQ11 : Hid (w9.cell? ⟨t, 11, none⟩ = some (.slice (some ⟨f, 0, none⟩) a.n cf)) := hgo.1.box.cell' rfl
  have HQf : Hid (w9.cell? ⟨f, k, none⟩ = some (.pointer (some ⟨r k, 0, none⟩))) := hgo.1.core.frow.cell' (hgo.1.core.fat k hlt)
  have HQx : Hid (w9.cell? ⟨w.heap.size, 1, none⟩ = some (.string user)) := H9.out.op.cell' rfl
  have HQl : Hid (w9.cell? ⟨t, 0, none⟩ = some (.int .i64 (a.n : Int))) := hgo.1.box.cell' rfl
  clear hgo hR9 hW9
  go_wp2_with fail
  refine hK.out _ _ ⟨HQ11.out, HQf.out, HQx.out, HQl.out⟩ (fun hS2 => ?_)
  clear hK K
  try simp only [Go.Law.pz]
  refine wpAnyH_done (by kernel_rfl) ?_ _
  go_wp2_with fail
  go_meet
  exact ⟨rfl, _, by rw [HE.out]; exact H9.out⟩
 case rest =>
  obtain ⟨rfl, Q', h6⟩ := hcut
  have H6 := Lib.hid h6
  clear h6 c9 lt3 HV H3 HKF x0 x1 x2 x3 x4 x5 x6 lx
  have lr := H6.out.res.lt
  have r0_ := H6.out.res.cell' (i := 0) rfl
  have r1_ := H6.out.res.cell' (i := 1) rfl
  have r2_ := H6.out.res.cell' (i := 2) rfl
  have r3_ := H6.out.res.cell' (i := 3) rfl
  have q0_ := H6.out.res.frozen 0
  have q1_ := H6.out.res.frozen 1
  have q2_ := H6.out.res.frozen 2
  have q3_ := H6.out.res.frozen 3
  have l7_ := H6.out.rr.lt
  have s0_ := H6.out.rr.cell' (i := 0) rfl
  have s1_ := H6.out.rr.cell' (i := 1) rfl
  have s2_ := H6.out.rr.cell' (i := 2) rfl
  have s3_ := H6.out.rr.cell' (i := 3) rfl
  go_wp2_with fail
  have HW := rwrap rfl H6.out.res H6.out.tab H6.out.gone H6.out.nr (.int .i64 0) (.slice none 0 0) (.slice none 0 0) (.bool false)
  generalize (((wc.setCell ⟨w.heap.size + 1, 0, none⟩ (.int .i64 0)).setCell ⟨w.heap.size + 1, 1, none⟩ (.slice none 0 0)).setCell ⟨w.heap.size + 1, 2, none⟩ (.slice none 0 0)).setCell ⟨w.heap.size + 1, 3, none⟩ (.bool false) = wz at *
  have n0 := HW.box.cell' (i := 0) rfl
  have n1 := HW.box.cell' (i := 1) rfl
  have n2 := HW.box.cell' (i := 2) rfl
  have n3 := HW.box.cell' (i := 3) rfl
  refine bodyPost_ret (v := .agg #[.int .i64 0, .slice none 0 0, .slice none 0 0, .bool false]) (by simp [results, Tryz.results13, go_sem, n0, n1, n2, n3]) rfl ?_
  exact ⟨none, 0, none, 0, rfl, fun h => absurd rfl h, fun h => absurd rfl h, Q', HW.tab, HW.gone⟩
set_option maxRecDepth 100000 in
set_option maxHeartbeats 4000000 in
theorem rdo8 (user : ByteArray) (id st pr ttl : Int) (A : Option Addr) (c : Nat) (us : List ByteArray) (h : RTab w base Q N t x a) (_hN : N ≤ 990) (ho : a.Ok bd) (_hbd : bd ≤ 380) (_hbw : base ≤ w.heap.size) {who : Nat} (hw : who < 8) (hin : OpW.In ⟨8, user, id, st, pr, ttl, A, c, us⟩ w) (hg : goodB ⟨8, user, id, st, pr, ttl, A, c, us⟩ = true) (hul : us.length ≤ 1000) :
  Calls Tryz.prog 13 #[.pointer (some ⟨t, 0, none⟩), .int .i64 (who : Int), .agg #[.int .i64 8, .string user, .int .i64 id, .int .i64 st, .int .i64 pr, .int .u64 ttl, .slice A us.length c]] w (RPolled w base Q (N + 1) t x (a.ask who ⟨8, user, id, st, pr, ttl, A, c, us⟩).1 (a.ask who ⟨8, user, id, st, pr, ttl, A, c, us⟩).2) := by
 have HUL : Hid (us.length ≤ 1000) := by show _ ≤ _; exact hul
 have hqq : ∀ z, Q z → z < w.heap.size := fun z hz => (h.ok z hz).2
 have HQQ := Lib.hid hqq
 clear hqq
 obtain ⟨i0, hE⟩ := Feed.elemR
 have HE := Lib.hid hE
 clear hE
 rw [show a.ask who ⟨8, user, id, st, pr, ttl, A, c, us⟩ = a.poll who from by simp [Mo.ask]]
 have dw0 : decide ((who : Int) < 0) = false := by simp
 have dw7 : decide ((7 : Int) < (who : Int)) = false := by simp; omega
 have bb := ((Below.refl w.heap.size w).alloc (Nat.le_refl _) (.cells #[.int .i64 8, .string user, .int .i64 id, .int .i64 st, .int .i64 pr, .int .u64 ttl, .slice A us.length c] 37)).alloc (by simp) (.cells #[.int .i64 0, .slice none 0 0, .slice none 0 0, .bool false] 43)
 have HX1 : Hid (Is ((w.alloc (.cells #[.int .i64 8, .string user, .int .i64 id, .int .i64 st, .int .i64 pr, .int .u64 ttl, .slice A us.length c] 37)).alloc (.cells #[.int .i64 0, .slice none 0 0, .slice none 0 0, .bool false] 43)) w.heap.size 37 #[.int .i64 8, .string user, .int .i64 id, .int .i64 st, .int .i64 pr, .int .u64 ttl, .slice A us.length c]) := (Is.new w _ _ rfl).alloc _
 have HR1 : Hid (Is ((w.alloc (.cells #[.int .i64 8, .string user, .int .i64 id, .int .i64 st, .int .i64 pr, .int .u64 ttl, .slice A us.length c] 37)).alloc (.cells #[.int .i64 0, .slice none 0 0, .slice none 0 0, .bool false] 43)) (w.heap.size + 1) 43 #[.int .i64 0, .slice none 0 0, .slice none 0 0, .bool false]) := Is.new _ _ _ (by simp)
 have H1 := Lib.hid (h.below bb)
 have G1 : Hid (Gone w Q _ Q) := Gone.of_below bb
 have IN1 := Lib.hid (hin.below bb)
 have hok := Lib.hid h.ok
 have HO := Lib.hid ho
 have HU := Lib.hid hin
 have hsz1 : w.heap.size + 2 ≤ ((w.alloc (.cells #[.int .i64 8, .string user, .int .i64 id, .int .i64 st, .int .i64 pr, .int .u64 ttl, .slice A us.length c] 37)).alloc (.cells #[.int .i64 0, .slice none 0 0, .slice none 0 0, .bool false] 43)).heap.size := by simp
 have HBW1 := Lib.hid bb
 clear bb h ho hin
 go_enter Tryz.func13, Tryz.ntmps13
 go_wp2_with fail
 generalize ((w.alloc (.cells #[.int .i64 8, .string user, .int .i64 id, .int .i64 st, .int .i64 pr, .int .u64 ttl, .slice A us.length c] 37)).alloc (.cells #[.int .i64 0, .slice none 0 0, .slice none 0 0, .bool false] 43)) = w1 at *
 refine (rbad ⟨8, user, id, st, pr, ttl, A, c, us⟩ IN1.out (by first | omega | exact HUL.out) (r := false) (by rw [hg]; rfl)).mono ?_
 rintro e w2 ⟨rfl, b2⟩
 have HX2 := Lib.hid (HX1.out.below b2 HX1.out.lt)
 have HR2 := Lib.hid (HR1.out.below b2 HR1.out.lt)
 have H2 := Lib.hid (H1.out.below b2)
 have G2 := Lib.hid (G1.out.trans (Gone.of_below b2))
 have IN2 := Lib.hid (IN1.out.below b2)
 have hsz2 := Nat.le_trans hsz1 b2.size
 have HBW2 := Lib.hid (HBW1.out.trans (b2.mono HBW1.out.size))
 clear b2 HX1 HR1 H1 G1 IN1 hsz1 HBW1
 go_upto_region 4 with (fail)
 have H3 : Hid (RD w (w2.alloc (.cells #[.int .i64 0, .slice none 0 0, .slice none 0 0, .bool false] 43)) base Q Q N t x w2.heap.size #[.int .i64 8, .string user, .int .i64 id, .int .i64 st, .int .i64 pr, .int .u64 ttl, .slice A us.length c] #[.int .i64 0, .slice none 0 0, .slice none 0 0, .bool false] a) := by
  have b3 := (Below.refl w2.heap.size w2).alloc (Nat.le_refl _) (.cells #[.int .i64 0, .slice none 0 0, .slice none 0 0, .bool false] 43)
  exact ⟨H2.out.below b3, G2.out.trans (Gone.of_below b3), HX2.out.below b3 HX2.out.lt, HR2.out.below b3 HR2.out.lt, Is.new w2 _ _ rfl, fun hx => by have := (hok.out _ hx).2; omega, fun hx => by have := (hok.out _ hx).2; omega, fun hx => by have := (H2.out.ok _ hx).2; omega, by omega⟩
 have HBW3 := Lib.hid (HBW2.out.alloc HBW2.out.size (.cells #[.int .i64 0, .slice none 0 0, .slice none 0 0, .bool false] 43))
 have IN3 := Lib.hid (IN2.out.below ((Below.refl w2.heap.size w2).alloc (Nat.le_refl _) (.cells #[.int .i64 0, .slice none 0 0, .slice none 0 0, .bool false] 43)))
 generalize w2.alloc (.cells #[.int .i64 0, .slice none 0 0, .slice none 0 0, .bool false] 43) = w3 at *
 generalize w2.heap.size = g7 at *
 clear HX2 HR2 H2 G2 IN2 HBW2
 obtain ⟨b, f, cb, cf, ab, af, r, Rk, ps, hV⟩ := H3.out.tab
 have HV := Lib.hid hV
 clear hV
 have x0 : w3.cell? ⟨w.heap.size, 0, none⟩ = some (.int .i64 8) := H3.out.op.cell' rfl
 have x1 : w3.cell? ⟨w.heap.size, 1, none⟩ = some (.string user) := H3.out.op.cell' rfl
 have x2 : w3.cell? ⟨w.heap.size, 2, none⟩ = some (.int .i64 id) := H3.out.op.cell' rfl
 have x3 : w3.cell? ⟨w.heap.size, 3, none⟩ = some (.int .i64 st) := H3.out.op.cell' rfl
 have x4 : w3.cell? ⟨w.heap.size, 4, none⟩ = some (.int .i64 pr) := H3.out.op.cell' rfl
 have x5 : w3.cell? ⟨w.heap.size, 5, none⟩ = some (.int .u64 ttl) := H3.out.op.cell' rfl
 have x6 : w3.cell? ⟨w.heap.size, 6, none⟩ = some (.slice A us.length c) := H3.out.op.cell' rfl
 have lx := H3.out.op.lt
 have hn8 := HO.out.n8
 have H3L : Hid (RD w w3 base Q Q N t x g7 #[.int .i64 8, .string user, .int .i64 id, .int .i64 st, .int .i64 pr, .int .u64 ttl, .slice A us.length c] #[.int .i64 0, .slice none 0 0, .slice none 0 0, .bool (a.lost who 0)] (a.upto who 0)) := by rw [upto_zero]; exact H3.out
 have HVL : Hid (RTabV w3 base Q N t b f cb cf x ab af r Rk ps (a.upto who 0)) := by rw [upto_zero]; exact HV.out
 go_wp2_with fail
 go_loopw [8, 9] (fun v8 vi wr => ∃ (j : Nat) (l : List (RowV Ev)), j ≤ a.n ∧ vi = .int .i64 j ∧ l.length = j ∧ Feed.evs l = a.told who j ∧ wr.ownsRow (g7 + 1) 41 1 v8 j (l.flatMap cellsR) ∧ (∀ q ∈ l, ∃ i, i < a.n ∧ LieR (Rk i) wr q.A (flatE q.xs) ∧ q.xs.length ≤ q.c) ∧ RD w wr base Q Q N t x g7 #[.int .i64 8, .string user, .int .i64 id, .int .i64 st, .int .i64 pr, .int .u64 ttl, .slice A us.length c] #[.int .i64 0, .slice none 0 0, .slice none 0 0, .bool (a.lost who j)] (a.upto who j) ∧ RTabV wr base Q N t b f cb cf x ab af r Rk ps (a.upto who j)) (fun _ vi _ => a.n - (intOf vi).toNat)
 case atStart => exact ⟨0, [], Nat.zero_le _, rfl, rfl, rfl, World.ownsRow_nil _ _ _ _, fun _ h => (by cases h), H3L.out, HVL.out⟩
 case round =>
  clear H3 HV H3L HVL x0 x1 x2 x3 x4 x5 x6 lx
  obtain ⟨j, l, hj, rfl, hll, hev, hO, hrows, hR, hV⟩ := hrel
  obtain ⟨Dv, cv, rfl, hcv⟩ := own_shape hO
  have HOW := Lib.hid hO
  have HRO := Lib.hid hrows
  have HR := Lib.hid hR
  have HV := Lib.hid hV
  have HEV := Lib.hid hev
  have HLL := Lib.hid hll
  clear hO hrows hR hV hev
  have e11 : wr.cell? ⟨t, 11, none⟩ = some (.slice (some ⟨f, 0, none⟩) a.n cf) := HV.out.box.cell' rfl
  have lt5 := HV.out.box.lt
  have lf5 := HV.out.core.frow.lt
  have h77 := HR.out.l7
  by_cases hjl : j < a.n
  ·have d1 : decide ((j : Int) < (a.n : Int)) = true := by simp; omega
   have ej : wr.cell? ⟨f, j, none⟩ = some (.pointer (some ⟨r j, 0, none⟩)) := HV.out.core.frow.cell' (HV.out.core.fat j hjl)
   have HRF : Hid (RefAt wr (Rk j) (r j) a.room (ps j) (a.fd j).que (a.fd j).los) := by have h1 := HV.out.core.ref j hjl; rw [upto_at] at h1; exact h1
   go_wp2_with fail
   refine (rDrainC HRF.out hw).mono ?_
   rintro e w6 ⟨A6, c6, rfl, hc6, hl6, hR6, hW6⟩
   have hdr := HV.out.drain hjl (who := who) (by rw [upto_at]; exact hR6) hW6
   rw [show ({ a.upto who j with fd := upd (a.upto who j).fd j (drained who ((a.upto who j).fd j)) } : Mo) = a.upto who (j + 1) by rw [upto_next, upto_at]] at hdr
   have HV6 := Lib.hid hdr.1
   have H6 := Lib.hid (HR.out.go hdr.1.tab hdr.2)
   have hqs : ∀ i, i < a.n → ∀ z, Rk i z → z < w.heap.size := fun i hi z hz => HQQ.out z ((HV.out.sub i hi).2 z hz)
   have HQS := Lib.hid hqs
   have HOW6 : Hid (w6.ownsRow (g7 + 1) 41 1 (.slice Dv j cv) j (l.flatMap cellsR)) := hW6.touch.own HOW.out (fun g hg e => by have h1 := (HOW.out.lt g hg).1; have h2 := HQQ.out _ (HV.out.sub j hjl).1; omega)
   have HRO6 : Hid (∀ q ∈ l ++ [⟨A6, c6, (a.fd j).que who⟩], ∃ i, i < a.n ∧ LieR (Rk i) w6 q.A (flatE q.xs) ∧ q.xs.length ≤ q.c) := by
    intro q hq
    rcases List.mem_append.1 hq with hq | hq
    ·obtain ⟨i, hi, h1, h2⟩ := HRO.out q hq
     exact ⟨i, hi, h1.touch hW6.touch (fun z hz e => HV.out.core.roff i j hi hjl (e ▸ hz)) (fun z hz => (HV.out.core.ref i hi).ok z hz), h2⟩
    ·obtain rfl := List.mem_singleton.1 hq
     exact ⟨j, hjl, hl6, hc6⟩
   have HEV2 : Hid (Feed.evs (l ++ [(⟨A6, c6, (a.fd j).que who⟩ : RowV Ev)]) = a.told who (j + 1)) := by show _ = _; rw [told_next, ← HEV.out]; unfold Feed.evs; rw [List.map_append]; rfl
   have HLO := Lib.hid (lost_next a who j)
   clear hdr hqs hc6 hl6 hR6 hW6 HRF HV HR HRO HOW HEV e11 lt5 lf5 ej
   generalize (a.fd j).que who = q6 at *
   generalize (a.fd j).los who = o6 at *
   go_upto_region 11 with (at_builtin; refine wpList_append_own _ rfl _ _ 89 rfl (g7 + 1) 41 i0 (.slice none 0 0) 1 24 HE.out.ut HE.out.info HE.out.zero HE.out.sz HE.out.by_ HE.out.cells HE.out.pos _ _ _ rfl (HOW6.out.alloc _) ⟨w6.heap.size, 0, none⟩ 1 1 [.slice A6 q6.length c6] rfl rfl ?_ ?_ (by unfold maxLen; omega) (by omega) (by have := H6.out.rr.lt; simp; omega) ?_; (intro jj uu huu; have h0 : jj = 0 := by have := (List.getElem?_eq_some_iff.1 huu).1; simpa using this); (subst h0; simp at huu; subst huu; simp [Addr.add]); (intro uu huu; simp at huu; subst huu; rfl); intro v7 w7 hown hgrow _)
   have bq := (Below.refl w6.heap.size w6).alloc (Nat.le_refl _) (.cells #[.slice A6 q6.length c6] 41)
   have hw6 : (w6.alloc (.cells #[.slice A6 q6.length c6] 41)).ownsRow (g7 + 1) 41 1 (.slice Dv j cv) j (l.flatMap cellsR) := HOW6.out.alloc _
   have H7 := Lib.hid ((H6.out.below bq).grown HQQ.out hw6 hgrow (by decide) (by decide) (by decide))
   have ht7 : Law.Touch w6 w7 (fun k => g7 < k) := (Law.Touch.of_below bq _).trans (Law.Touch.grown (T := fun k => g7 < k) hgrow (fun k hk => (hw6.lt k hk).1)) (fun k hk => .inl hk)
   have HST : Hid (Still w6 w7) := (Still.of_below bq).trans ⟨⟨Keeps.grown hw6 hgrow (by decide), Keeps.grown hw6 hgrow (by decide)⟩, Keeps.grown hw6 hgrow (by decide), fun t ht => Keeps.grown hw6 hgrow (fun e => absurd (e ▸ ht) (by decide))⟩
   have HV7 := Lib.hid (HV6.out.touch ht7 (fun z hz hl => by have := HQQ.out z hz; omega) HST.out)
   have HRO7 : Hid (∀ q ∈ l ++ [⟨A6, c6, q6⟩], ∃ i, i < a.n ∧ LieR (Rk i) w7 q.A (flatE q.xs) ∧ q.xs.length ≤ q.c) := fun q hq => by obtain ⟨i, hi, h1, h2⟩ := HRO6.out q hq; exact ⟨i, hi, h1.touch ht7 (fun z hz hl => by have := HQS.out i hi z hz; omega) (fun z hz => by have := HQS.out i hi z hz; have := H6.out.res.lt; omega), h2⟩
   have HO7 : Hid (w7.ownsRow (g7 + 1) 41 1 v7 (j + 1) ((l ++ [(⟨A6, c6, q6⟩ : RowV Ev)]).flatMap cellsR)) := by show World.ownsRow _ _ _ _ _ _ _; rw [List.flatMap_append]; exact hown
   obtain ⟨D7, c7, rfl, _⟩ := own_shape HO7.out
   clear bq hw6 ht7 hown hgrow H6 HV6 HRO6 HOW6 HST
   have lq := H7.out.rr.lt
   have rq := H7.out.rr.cell' (i := 3) rfl
   have fq := H7.out.rr.frozen 3
   obtain ⟨lo, hlo⟩ : ∃ lo, a.lost who j = lo := ⟨_, rfl⟩
   have HLQ := Lib.hid hlo
   rw [hlo] at rq
   clear hlo
   have HP7 := Lib.hid (H7.out.put 3 (.bool (lo || o6)) rfl)
   have hst := Still.store (i := 3) H7.out.rr (by decide) (by decide) (by decide) (.bool (lo || o6))
   have hts := Law.Touch.store (T := fun k => k = g7) w7 ⟨g7, 3, none⟩ (.bool (lo || o6)) rfl
   have HV8 := Lib.hid (HV7.out.touch hts (fun z hz e => by have := HQQ.out z hz; omega) hst)
   have HO8 := Lib.hid (hts.own HO7.out (fun g hg e => by have := (HO7.out.lt g hg).1; omega))
   have HRO8 : Hid (∀ q ∈ l ++ [⟨A6, c6, q6⟩], ∃ i, i < a.n ∧ LieR (Rk i) (w7.setCell ⟨g7, 3, none⟩ (.bool (lo || o6))) q.A (flatE q.xs) ∧ q.xs.length ≤ q.c) := fun q hq => by obtain ⟨i, hi, h1, h2⟩ := HRO7.out q hq; exact ⟨i, hi, h1.touch hts (fun z hz e => by have := HQS.out i hi z hz; omega) (fun z hz => by have := HQS.out i hi z hz; have := H7.out.res.lt; omega), h2⟩
   clear hst hts HV7 HO7 HRO7 H7
   cases lo with
   | true =>
     go_wp2_with fail
     go_roundw
     case rel => exact ⟨j + 1, _, by omega, by go_num, by simp [HLL.out], HEV2.out, HO8.out, HRO8.out, by rw [HLO.out, HLQ.out]; exact HP7.out, HV8.out⟩
     case measure => simp [intOf]; omega
   | false =>
     rw [Bool.false_or] at HP7 HV8 HO8 HRO8
     go_wp2_with fail
     go_roundw
     case rel => exact ⟨j + 1, _, by omega, by go_num, by simp [HLL.out], HEV2.out, HO8.out, HRO8.out, by rw [HLO.out, HLQ.out]; exact HP7.out, HV8.out⟩
     case measure => simp [intOf]; omega
  ·obtain rfl : j = a.n := by omega
   have d1 : decide ((a.n : Int) < (a.n : Int)) = false := by simp
   have HRW : Hid (Feed.Rows wr Dv l) := ⟨by rw [← HLL.out] at HOW; exact (Seq.own HOW.out).from_ (Nat.zero_le _), fun q hq => by obtain ⟨i, hi, h1, _⟩ := HRO.out q hq; exact h1.seq (fun z hz => (HV.out.core.ref i hi).ok z hz), fun q hq => by obtain ⟨i, hi, _, h2⟩ := HRO.out q hq; exact h2⟩
   have HM := refMerge l Dv cv wr HRW.out (by rw [HEV.out]; have := told_total HO.out hw (j := a.n) (Nat.le_refl _); omega) (by omega)
   rw [HLL.out, HEV.out] at HM
   have HM2 := Lib.hid HM
   clear HM HRW HRO
   obtain ⟨zs, hzs⟩ : ∃ zs, all (a.told who a.n) = zs := ⟨_, rfl⟩
   rw [hzs] at HM2
   have HZS := Lib.hid hzs
   clear hzs
   go_wp2_with fail
   refine HM2.out.mono ?_
   rintro e w9 ⟨A9, c9, rfl, hc9, hs9, b9⟩
   have H9 := Lib.hid (HR.out.below b9)
   have hg9 : g7 + 1 ≤ wr.heap.size := HR.out.rr.lt
   have HS9 := Lib.hid hs9
   clear hs9 b9 hc9 HM2 HR HV e11 lt5 lf5
   have l9 := H9.out.rr.lt
   have q9 := H9.out.rr.cell' (i := 2) rfl
   have f9 := H9.out.rr.frozen 2
   have H10 := Lib.hid (H9.out.put 2 (.slice A9 zs.length c9) rfl)
   have HS10 := Lib.hid (HS9.out.store (p := ⟨g7, 2, none⟩) (.inl (by show g7 < _; omega)) (.slice A9 zs.length c9))
   go_upto_region 13 with (fail)
   have hz9 : (w9.setCell ⟨g7, 2, none⟩ (.slice A9 zs.length c9)).heap.size = w9.heap.size := by simp
   rw [← hz9] at HS10
   generalize w9.setCell ⟨g7, 2, none⟩ (.slice A9 zs.length c9) = w10 at *
   clear H9 HS9 l9 q9 f9 hz9
   have lr := H10.out.res.lt
   have r0_ := H10.out.res.cell' (i := 0) rfl
   have r1_ := H10.out.res.cell' (i := 1) rfl
   have r2_ := H10.out.res.cell' (i := 2) rfl
   have r3_ := H10.out.res.cell' (i := 3) rfl
   have q0_ := H10.out.res.frozen 0
   have q1_ := H10.out.res.frozen 1
   have q2_ := H10.out.res.frozen 2
   have q3_ := H10.out.res.frozen 3
   have l7_ := H10.out.rr.lt
   have s0_ := H10.out.rr.cell' (i := 0) rfl
   have s1_ := H10.out.rr.cell' (i := 1) rfl
   have s2_ := H10.out.rr.cell' (i := 2) rfl
   have s3_ := H10.out.rr.cell' (i := 3) rfl
   go_wp2_with fail
   have HW := rwrap rfl H10.out.res H10.out.tab H10.out.gone H10.out.nr (.int .i64 0) (.slice none 0 0) (.slice A9 zs.length c9) (.bool (a.lost who a.n))
   generalize (((w10.setCell ⟨w.heap.size + 1, 0, none⟩ (.int .i64 0)).setCell ⟨w.heap.size + 1, 1, none⟩ (.slice none 0 0)).setCell ⟨w.heap.size + 1, 2, none⟩ (.slice A9 zs.length c9)).setCell ⟨w.heap.size + 1, 3, none⟩ (.bool (a.lost who a.n)) = wz at *
   have n0 := HW.box.cell' (i := 0) rfl
   have n1 := HW.box.cell' (i := 1) rfl
   have n2 := HW.box.cell' (i := 2) rfl
   have n3 := HW.box.cell' (i := 3) rfl
   refine bodyPost_ret (v := .agg #[.int .i64 0, .slice none 0 0, .slice A9 zs.length c9, .bool (a.lost who a.n)]) (by simp [results, Tryz.results13, go_sem, n0, n1, n2, n3]) rfl ?_
   exact ⟨none, 0, A9, c9, (by show Ending.returned _ = .returned (.agg #[.int .i64 0, .slice none 0 0, .slice A9 (all (a.told who a.n)).length c9, .bool (a.lost who a.n)]); rw [HZS.out]), fun h => absurd rfl h, (by show Seq wz w.heap.size wz.heap.size A9 (flatE (all (a.told who a.n))); rw [HZS.out]; exact (HW.seq (by omega) HS10.out).from_ (by omega)), Q, HW.tab.more (Nat.le_succ N), HW.gone⟩
set_option maxRecDepth 100000 in
set_option maxHeartbeats 4000000 in
theorem rdoBad (kind : Int) (user : ByteArray) (id st pr ttl : Int) (A : Option Addr) (c : Nat) (us : List ByteArray) (h : RTab w base Q N t x a) (who : Int) (hin : OpW.In ⟨kind, user, id, st, pr, ttl, A, c, us⟩ w) (hul : us.length ≤ 1000) {gb : Bool} (hg : goodB ⟨kind, user, id, st, pr, ttl, A, c, us⟩ = gb) (hor : gb = false ∨ ¬ (0 ≤ who ∧ who < 8)) :
  Calls Tryz.prog 13 #[.pointer (some ⟨t, 0, none⟩), .int .i64 who, .agg #[.int .i64 kind, .string user, .int .i64 id, .int .i64 st, .int .i64 pr, .int .u64 ttl, .slice A us.length c]] w (RPolled w base Q N t x a (Rep.of 1)) := by
 have HUL : Hid (us.length ≤ 1000) := by show _ ≤ _; exact hul
 have bb := ((Below.refl w.heap.size w).alloc (Nat.le_refl _) (.cells #[.int .i64 kind, .string user, .int .i64 id, .int .i64 st, .int .i64 pr, .int .u64 ttl, .slice A us.length c] 37)).alloc (by simp) (.cells #[.int .i64 0, .slice none 0 0, .slice none 0 0, .bool false] 43)
 have HR1 : Hid (Is ((w.alloc (.cells #[.int .i64 kind, .string user, .int .i64 id, .int .i64 st, .int .i64 pr, .int .u64 ttl, .slice A us.length c] 37)).alloc (.cells #[.int .i64 0, .slice none 0 0, .slice none 0 0, .bool false] 43)) (w.heap.size + 1) 43 #[.int .i64 0, .slice none 0 0, .slice none 0 0, .bool false]) := Is.new _ _ _ (by simp)
 have H1 := Lib.hid (h.below bb)
 have G1 : Hid (Gone w Q _ Q) := Gone.of_below bb
 have IN1 := Lib.hid (hin.below bb)
 have hok := Lib.hid h.ok
 have NR : Hid (¬ Q (w.heap.size + 1)) := fun hx => by have := (hok.out _ hx).2; omega
 clear bb h hin
 cases gb with
 | false =>
   go_enter Tryz.func13, Tryz.ntmps13
   go_wp2_with fail
   generalize ((w.alloc (.cells #[.int .i64 kind, .string user, .int .i64 id, .int .i64 st, .int .i64 pr, .int .u64 ttl, .slice A us.length c] 37)).alloc (.cells #[.int .i64 0, .slice none 0 0, .slice none 0 0, .bool false] 43)) = w1 at *
   refine (rbad ⟨kind, user, id, st, pr, ttl, A, c, us⟩ IN1.out HUL.out (r := true) (by rw [hg]; rfl)).mono ?_
   rintro e w2 ⟨rfl, b2⟩
   have HR2 := Lib.hid (HR1.out.below b2 HR1.out.lt)
   have H2 := Lib.hid (H1.out.below b2)
   have G2 := Lib.hid (G1.out.trans (Gone.of_below b2))
   clear b2 HR1 H1 G1
   have lr := HR2.out.lt
   have r0_ := HR2.out.cell' (i := 0) rfl
   have r1_ := HR2.out.cell' (i := 1) rfl
   have r2_ := HR2.out.cell' (i := 2) rfl
   have r3_ := HR2.out.cell' (i := 3) rfl
   have q0_ := HR2.out.frozen 0
   have q1_ := HR2.out.frozen 1
   have q2_ := HR2.out.frozen 2
   have q3_ := HR2.out.frozen 3
   go_wp2_with fail
   have HW := rwrap rfl HR2.out H2.out G2.out NR.out (.int .i64 1) (.slice none 0 0) (.slice none 0 0) (.bool false)
   generalize (((w2.setCell ⟨w.heap.size + 1, 0, none⟩ (.int .i64 1)).setCell ⟨w.heap.size + 1, 1, none⟩ (.slice none 0 0)).setCell ⟨w.heap.size + 1, 2, none⟩ (.slice none 0 0)).setCell ⟨w.heap.size + 1, 3, none⟩ (.bool false) = wz at *
   have n0 := HW.box.cell' (i := 0) rfl
   have n1 := HW.box.cell' (i := 1) rfl
   have n2 := HW.box.cell' (i := 2) rfl
   have n3 := HW.box.cell' (i := 3) rfl
   refine bodyPost_ret (v := .agg #[.int .i64 1, .slice none 0 0, .slice none 0 0, .bool false]) (by simp [results, Tryz.results13, go_sem, n0, n1, n2, n3]) rfl ?_
   exact ⟨none, 0, none, 0, rfl, fun h => absurd rfl h, fun h => absurd rfl h, Q, HW.tab, HW.gone⟩
 | true =>
   have hn : ¬ (0 ≤ who ∧ who < 8) := hor.elim (fun h => Bool.noConfusion h) (fun h => h)
   by_cases h0 : who < 0
   ·have d0 : decide (who < 0) = true := by simpa using h0
    go_enter Tryz.func13, Tryz.ntmps13
    go_wp2_with fail
    generalize ((w.alloc (.cells #[.int .i64 kind, .string user, .int .i64 id, .int .i64 st, .int .i64 pr, .int .u64 ttl, .slice A us.length c] 37)).alloc (.cells #[.int .i64 0, .slice none 0 0, .slice none 0 0, .bool false] 43)) = w1 at *
    refine (rbad ⟨kind, user, id, st, pr, ttl, A, c, us⟩ IN1.out HUL.out (r := false) (by rw [hg]; rfl)).mono ?_
    rintro e w2 ⟨rfl, b2⟩
    have HR2 := Lib.hid (HR1.out.below b2 HR1.out.lt)
    have H2 := Lib.hid (H1.out.below b2)
    have G2 := Lib.hid (G1.out.trans (Gone.of_below b2))
    clear b2 HR1 H1 G1
    have lr := HR2.out.lt
    have r0_ := HR2.out.cell' (i := 0) rfl
    have r1_ := HR2.out.cell' (i := 1) rfl
    have r2_ := HR2.out.cell' (i := 2) rfl
    have r3_ := HR2.out.cell' (i := 3) rfl
    have q0_ := HR2.out.frozen 0
    have q1_ := HR2.out.frozen 1
    have q2_ := HR2.out.frozen 2
    have q3_ := HR2.out.frozen 3
    go_wp2_with fail
    have HW := rwrap rfl HR2.out H2.out G2.out NR.out (.int .i64 1) (.slice none 0 0) (.slice none 0 0) (.bool false)
    generalize (((w2.setCell ⟨w.heap.size + 1, 0, none⟩ (.int .i64 1)).setCell ⟨w.heap.size + 1, 1, none⟩ (.slice none 0 0)).setCell ⟨w.heap.size + 1, 2, none⟩ (.slice none 0 0)).setCell ⟨w.heap.size + 1, 3, none⟩ (.bool false) = wz at *
    have n0 := HW.box.cell' (i := 0) rfl
    have n1 := HW.box.cell' (i := 1) rfl
    have n2 := HW.box.cell' (i := 2) rfl
    have n3 := HW.box.cell' (i := 3) rfl
    refine bodyPost_ret (v := .agg #[.int .i64 1, .slice none 0 0, .slice none 0 0, .bool false]) (by simp [results, Tryz.results13, go_sem, n0, n1, n2, n3]) rfl ?_
    exact ⟨none, 0, none, 0, rfl, fun h => absurd rfl h, fun h => absurd rfl h, Q, HW.tab, HW.gone⟩
   ·have d0 : decide (who < 0) = false := by simpa using h0
    have d7 : decide (7 < who) = true := by simp; omega
    go_enter Tryz.func13, Tryz.ntmps13
    go_wp2_with fail
    generalize ((w.alloc (.cells #[.int .i64 kind, .string user, .int .i64 id, .int .i64 st, .int .i64 pr, .int .u64 ttl, .slice A us.length c] 37)).alloc (.cells #[.int .i64 0, .slice none 0 0, .slice none 0 0, .bool false] 43)) = w1 at *
    refine (rbad ⟨kind, user, id, st, pr, ttl, A, c, us⟩ IN1.out HUL.out (r := false) (by rw [hg]; rfl)).mono ?_
    rintro e w2 ⟨rfl, b2⟩
    have HR2 := Lib.hid (HR1.out.below b2 HR1.out.lt)
    have H2 := Lib.hid (H1.out.below b2)
    have G2 := Lib.hid (G1.out.trans (Gone.of_below b2))
    clear b2 HR1 H1 G1
    have lr := HR2.out.lt
    have r0_ := HR2.out.cell' (i := 0) rfl
    have r1_ := HR2.out.cell' (i := 1) rfl
    have r2_ := HR2.out.cell' (i := 2) rfl
    have r3_ := HR2.out.cell' (i := 3) rfl
    have q0_ := HR2.out.frozen 0
    have q1_ := HR2.out.frozen 1
    have q2_ := HR2.out.frozen 2
    have q3_ := HR2.out.frozen 3
    go_wp2_with fail
    have HW := rwrap rfl HR2.out H2.out G2.out NR.out (.int .i64 1) (.slice none 0 0) (.slice none 0 0) (.bool false)
    generalize (((w2.setCell ⟨w.heap.size + 1, 0, none⟩ (.int .i64 1)).setCell ⟨w.heap.size + 1, 1, none⟩ (.slice none 0 0)).setCell ⟨w.heap.size + 1, 2, none⟩ (.slice none 0 0)).setCell ⟨w.heap.size + 1, 3, none⟩ (.bool false) = wz at *
    have n0 := HW.box.cell' (i := 0) rfl
    have n1 := HW.box.cell' (i := 1) rfl
    have n2 := HW.box.cell' (i := 2) rfl
    have n3 := HW.box.cell' (i := 3) rfl
    refine bodyPost_ret (v := .agg #[.int .i64 1, .slice none 0 0, .slice none 0 0, .bool false]) (by simp [results, Tryz.results13, go_sem, n0, n1, n2, n3]) rfl ?_
    exact ⟨none, 0, none, 0, rfl, fun h => absurd rfl h, fun h => absurd rfl h, Q, HW.tab, HW.gone⟩
theorem rdo (q : OpW) (h : RTab w base Q N t x a) (hN : N ≤ 990) (ho : a.Ok bd) (hbd : bd ≤ 380) (hbw : base ≤ w.heap.size) (who : Int) (hin : q.In w) (hul : q.us.length ≤ 1000) (hri : ∀ k, k < a.n → ∀ i, i < 8 → Rises OmapU.lt ((a.fd k).wat i)) :
  Calls Tryz.prog 13 #[.pointer (some ⟨t, 0, none⟩), .int .i64 who, q.v.val] w (RPolled w base Q (N + 1) t x (a.do_ who q).1 (a.do_ who q).2) := by
 obtain ⟨kind, user, id, st, pr, ttl, A, c, us⟩ := q
 simp only at hul
 unfold Mo.do_
 by_cases hc : goodB ⟨kind, user, id, st, pr, ttl, A, c, us⟩ = true ∧ (0 ≤ who ∧ who < 8)
 ·rw [if_pos hc]
  obtain ⟨hg, hw0, hw8⟩ := hc
  obtain ⟨k, rfl⟩ := Int.eq_ofNat_of_zero_le hw0
  have hk : k < 8 := by omega
  show Calls _ _ #[_, .int .i64 (k : Int), .agg #[.int .i64 kind, .string user, .int .i64 id, .int .i64 st, .int .i64 pr, .int .u64 ttl, .slice A us.length c]] _ (RPolled w base Q (N + 1) t x (a.ask k _).1 (a.ask k _).2)
  by_cases hr : 1 ≤ kind ∧ kind ≤ 9
  ·by_cases h3 : kind = 1 ∨ kind = 2 ∨ kind = 3
   ·exact rdoW kind user id st pr ttl A c us h hN ho hbd hbw hk hin hg hul h3
   ·by_cases h8 : kind = 8
    ·subst h8
     exact rdo8 user id st pr ttl A c us h hN ho hbd hbw hk hin hg hul
    ·have h9 : kind = 4 ∨ kind = 5 ∨ kind = 6 ∨ kind = 7 ∨ kind = 9 := by omega
     cases hcl : a.closed with
     | true => exact rdoShut kind user id st pr ttl A c us h hN ho hbd hbw hk hin hg hul h9 hcl
     | false =>
       rcases h9 with rfl | rfl | rfl | rfl | rfl
       ·exact rdo4 user id st pr ttl A c us h hN ho hbd hbw hk hin hg hul hcl
       ·exact rdo5 user id st pr ttl A c us h hN ho hbd hbw hk hin hg hul hcl
       ·exact rdo6 user id st pr ttl A c us h hN ho hbd hbw hk hin hg hul hcl hri
       ·exact rdo7 user id st pr ttl A c us h hN ho hbd hbw hk hin hg hul hcl
       ·exact rdo9 user id st pr ttl A c us h hN ho hbd hbw hk hin hg hul hcl
  ·exfalso
   unfold goodB at hg
   simp only at hg
   rw [if_neg (by omega), if_neg (by omega), if_neg (by omega), if_neg (by omega), decide_eq_false (by omega)] at hg
   cases hg
 ·rw [if_neg hc]
  refine (rdoBad kind user id st pr ttl A c us h who hin hul rfl ?_).mono fun _ _ ⟨A1, c1, A2, c2, h1, h2, h3, Q', h4, h5⟩ => ⟨A1, c1, A2, c2, h1, h2, h3, Q', h4.more (Nat.le_succ N), h5⟩
  cases hg : goodB ⟨kind, user, id, st, pr, ttl, A, c, us⟩ with
  | false => exact .inl rfl
  | true => exact .inr (fun h => hc ⟨hg, h⟩)
end
end Mod
end Go.Proofs.YtohdlnefgieenaaGreat
