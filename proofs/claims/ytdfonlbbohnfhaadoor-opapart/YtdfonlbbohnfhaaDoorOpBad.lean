/-
  What layer 10's reference says of an op that is bad (over OpWL's ops). (Laid out of Mod16, Mod17.)
-/
import Derived.Test.YtdfonlbbohnfhaaDoorOpAwk
namespace Go.Proofs.YtdfonlbbohnfhaaDoor
open Go.RowKit Go.Shelf
attribute [local go_sem] Oper.semAt_some
namespace Opx
open Go.Law
def nameB (u : ByteArray) : Bool := decide (1 ≤ u.size ∧ u.size ≤ 16)
def idB (n : Int) : Bool := decide (0 ≤ n) && decide (n ≤ 255)
def goodB (q : OpW) : Bool :=
  if q.kind = 1 then nameB q.user && (idB q.id && (decide (1 ≤ q.st) && decide (q.st ≤ 9)) && (decide (0 ≤ q.pr) && decide (q.pr ≤ 9)))
  else if q.kind = 2 ∨ q.kind = 3 then nameB q.user && idB q.id
  else if q.kind = 4 ∨ q.kind = 6 ∨ q.kind = 7 then nameB q.user
  else if q.kind = 5 then (decide (1 ≤ q.us.length) && decide (q.us.length ≤ 8)) && q.us.all nameB
  else decide (q.kind = 8 ∨ q.kind = 9)
set_option maxHeartbeats 1000000 in
theorem rname (u : ByteArray) (w : World) (hu : u.size ≤ maxLen) {r : Bool} (hr : nameB u = r) : Calls Tryd.prog 11 #[.string u] w fun e w' => e = .returned (.bool r) ∧ w = w' := by
  unfold maxLen at hu
  subst hr
  by_cases h0 : 0 < u.size
  · have d0 : decide ((0 : Int) < (u.size : Int)) = true := by simp; omega
    by_cases h1 : u.size < 17
    · have d1 : decide ((u.size : Int) < 17) = true := by simp; omega
      have HE : Hid (nameB u = true) := by exact decide_eq_true (by omega)
      go_enter Tryd.func11, Tryd.ntmps11
      go_wp2_with fail
      go_ret
      exact ⟨by rw [HE.out]; rfl, rfl⟩
    · have d1 : decide ((u.size : Int) < 17) = false := by simp; omega
      have HE : Hid (nameB u = false) := by exact decide_eq_false (by omega)
      go_enter Tryd.func11, Tryd.ntmps11
      go_wp2_with fail
      go_ret
      exact ⟨by rw [HE.out]; rfl, rfl⟩
  · have d0 : decide ((0 : Int) < (u.size : Int)) = false := decide_eq_false (by omega)
    have HE : Hid (nameB u = false) := by exact decide_eq_false (by omega)
    go_enter Tryd.func11, Tryd.ntmps11
    go_wp2_with fail
    go_ret
    exact ⟨by rw [HE.out]; rfl, rfl⟩
set_option maxRecDepth 100000 in
set_option maxHeartbeats 1600000 in
theorem rbad1 (user : ByteArray) (id st pr ttl : Int) (A : Option Addr) (c : Nat) (us : List ByteArray) {w : World} (hu : user.size ≤ maxLen) {r : Bool} (hr : (!(nameB user && (decide (0 ≤ id) && decide (id < 256)) && decide (0 < st) && decide (st < 10) && decide (0 ≤ pr) && decide (pr < 10))) = r) :
    Calls Tryd.prog 6 #[.agg #[.int .i64 1, .string user, .int .i64 id, .int .i64 st, .int .i64 pr, .int .u64 ttl, .slice A us.length c]] w fun e w' => e = .returned (.bool r) ∧ Below w.heap.size w w' := by
  subst hr
  go_enter Tryd.func6, Tryd.ntmps6
  go_wp2_with fail
  all_goals (refine (rname user _ hu rfl).mono ?_; rintro e w' ⟨rfl, rfl⟩; go_wp2_with fail)
  all_goals (go_ret; refine ⟨?_, (Below.refl _ w).alloc (Nat.le_refl _) _⟩)
  all_goals (congr 2 <;> simp_all)
set_option maxRecDepth 100000 in
set_option maxHeartbeats 1600000 in
theorem rbad2 (user : ByteArray) (id st pr ttl : Int) (A : Option Addr) (c : Nat) (us : List ByteArray) {w : World} (hu : user.size ≤ maxLen) {r : Bool} (hr : (!(nameB user && (decide (0 ≤ id) && decide (id < 256)))) = r) :
    Calls Tryd.prog 6 #[.agg #[.int .i64 2, .string user, .int .i64 id, .int .i64 st, .int .i64 pr, .int .u64 ttl, .slice A us.length c]] w fun e w' => e = .returned (.bool r) ∧ Below w.heap.size w w' := by
  subst hr
  go_enter Tryd.func6, Tryd.ntmps6
  go_wp2_with fail
  all_goals (refine (rname user _ hu rfl).mono ?_; rintro e w' ⟨rfl, rfl⟩; go_wp2_with fail)
  all_goals (go_ret; refine ⟨?_, (Below.refl _ w).alloc (Nat.le_refl _) _⟩)
  all_goals (congr 2 <;> simp_all)
set_option maxRecDepth 100000 in
set_option maxHeartbeats 1600000 in
theorem rbad3 (user : ByteArray) (id st pr ttl : Int) (A : Option Addr) (c : Nat) (us : List ByteArray) {w : World} (hu : user.size ≤ maxLen) {r : Bool} (hr : (!(nameB user && (decide (0 ≤ id) && decide (id < 256)))) = r) :
    Calls Tryd.prog 6 #[.agg #[.int .i64 3, .string user, .int .i64 id, .int .i64 st, .int .i64 pr, .int .u64 ttl, .slice A us.length c]] w fun e w' => e = .returned (.bool r) ∧ Below w.heap.size w w' := by
  subst hr
  go_enter Tryd.func6, Tryd.ntmps6
  go_wp2_with fail
  all_goals (refine (rname user _ hu rfl).mono ?_; rintro e w' ⟨rfl, rfl⟩; go_wp2_with fail)
  all_goals (go_ret; refine ⟨?_, (Below.refl _ w).alloc (Nat.le_refl _) _⟩)
  all_goals (congr 2 <;> simp_all)
set_option maxRecDepth 100000 in
set_option maxHeartbeats 1600000 in
theorem rbad4 (user : ByteArray) (id st pr ttl : Int) (A : Option Addr) (c : Nat) (us : List ByteArray) {w : World} (hu : user.size ≤ maxLen) {r : Bool} (hr : (!nameB user) = r) :
    Calls Tryd.prog 6 #[.agg #[.int .i64 4, .string user, .int .i64 id, .int .i64 st, .int .i64 pr, .int .u64 ttl, .slice A us.length c]] w fun e w' => e = .returned (.bool r) ∧ Below w.heap.size w w' := by
  subst hr
  go_enter Tryd.func6, Tryd.ntmps6
  go_wp2_with fail
  all_goals (refine (rname user _ hu rfl).mono ?_; rintro e w' ⟨rfl, rfl⟩; go_wp2_with fail)
  all_goals (go_ret; refine ⟨?_, (Below.refl _ w).alloc (Nat.le_refl _) _⟩)
  all_goals (congr 2 <;> simp_all)
set_option maxRecDepth 100000 in
set_option maxHeartbeats 1600000 in
theorem rbad6 (user : ByteArray) (id st pr ttl : Int) (A : Option Addr) (c : Nat) (us : List ByteArray) {w : World} (hu : user.size ≤ maxLen) {r : Bool} (hr : (!nameB user) = r) :
    Calls Tryd.prog 6 #[.agg #[.int .i64 6, .string user, .int .i64 id, .int .i64 st, .int .i64 pr, .int .u64 ttl, .slice A us.length c]] w fun e w' => e = .returned (.bool r) ∧ Below w.heap.size w w' := by
  subst hr
  go_enter Tryd.func6, Tryd.ntmps6
  go_wp2_with fail
  all_goals (refine (rname user _ hu rfl).mono ?_; rintro e w' ⟨rfl, rfl⟩; go_wp2_with fail)
  all_goals (go_ret; refine ⟨?_, (Below.refl _ w).alloc (Nat.le_refl _) _⟩)
  all_goals (congr 2 <;> simp_all)
set_option maxRecDepth 100000 in
set_option maxHeartbeats 1600000 in
theorem rbad7 (user : ByteArray) (id st pr ttl : Int) (A : Option Addr) (c : Nat) (us : List ByteArray) {w : World} (hu : user.size ≤ maxLen) {r : Bool} (hr : (!nameB user) = r) :
    Calls Tryd.prog 6 #[.agg #[.int .i64 7, .string user, .int .i64 id, .int .i64 st, .int .i64 pr, .int .u64 ttl, .slice A us.length c]] w fun e w' => e = .returned (.bool r) ∧ Below w.heap.size w w' := by
  subst hr
  go_enter Tryd.func6, Tryd.ntmps6
  go_wp2_with fail
  all_goals (refine (rname user _ hu rfl).mono ?_; rintro e w' ⟨rfl, rfl⟩; go_wp2_with fail)
  all_goals (go_ret; refine ⟨?_, (Below.refl _ w).alloc (Nat.le_refl _) _⟩)
  all_goals (congr 2 <;> simp_all)
set_option maxRecDepth 100000 in
set_option maxHeartbeats 1600000 in
theorem rbad8 (user : ByteArray) (id st pr ttl : Int) (A : Option Addr) (c : Nat) (us : List ByteArray) {w : World} {r : Bool} (hr : false = r) :
    Calls Tryd.prog 6 #[.agg #[.int .i64 8, .string user, .int .i64 id, .int .i64 st, .int .i64 pr, .int .u64 ttl, .slice A us.length c]] w fun e w' => e = .returned (.bool r) ∧ Below w.heap.size w w' := by
  subst hr
  go_enter Tryd.func6, Tryd.ntmps6
  go_wp2_with fail
  all_goals (go_ret; refine ⟨?_, (Below.refl _ w).alloc (Nat.le_refl _) _⟩)
  all_goals (congr 2 <;> simp_all)
set_option maxRecDepth 100000 in
set_option maxHeartbeats 1600000 in
theorem rbad9 (user : ByteArray) (id st pr ttl : Int) (A : Option Addr) (c : Nat) (us : List ByteArray) {w : World} {r : Bool} (hr : false = r) :
    Calls Tryd.prog 6 #[.agg #[.int .i64 9, .string user, .int .i64 id, .int .i64 st, .int .i64 pr, .int .u64 ttl, .slice A us.length c]] w fun e w' => e = .returned (.bool r) ∧ Below w.heap.size w w' := by
  subst hr
  go_enter Tryd.func6, Tryd.ntmps6
  go_wp2_with fail
  all_goals (go_ret; refine ⟨?_, (Below.refl _ w).alloc (Nat.le_refl _) _⟩)
  all_goals (congr 2 <;> simp_all)
set_option maxRecDepth 100000 in
set_option maxHeartbeats 1600000 in
theorem rbad0 (user : ByteArray) (id st pr ttl : Int) (A : Option Addr) (c : Nat) (us : List ByteArray) {w : World} {kind : Int} (hk : ¬ (1 ≤ kind ∧ kind ≤ 9)) {r : Bool} (hr : true = r) :
    Calls Tryd.prog 6 #[.agg #[.int .i64 kind, .string user, .int .i64 id, .int .i64 st, .int .i64 pr, .int .u64 ttl, .slice A us.length c]] w fun e w' => e = .returned (.bool r) ∧ Below w.heap.size w w' := by
  subst hr
  have k1 : (kind == 1) = false := by simp; omega
  have k2 : (kind == 2) = false := by simp; omega
  have k3 : (kind == 3) = false := by simp; omega
  have k4 : (kind == 4) = false := by simp; omega
  have k5 : (kind == 5) = false := by simp; omega
  have k6 : (kind == 6) = false := by simp; omega
  have k7 : (kind == 7) = false := by simp; omega
  have k8 : (kind == 8) = false := by simp; omega
  have k9 : (kind == 9) = false := by simp; omega
  have m8 : (kind != 8) = true := by simp; omega
  have m9 : (kind != 9) = true := by simp; omega
  go_enter Tryd.func6, Tryd.ntmps6
  go_wp2_with fail
  all_goals (go_ret; refine ⟨?_, (Below.refl _ w).alloc (Nat.le_refl _) _⟩)
  all_goals (congr 2 <;> simp_all)
/-- the users' place in an op -/
theorem op_part {w : World} {b : Nat} {v0 v1 v2 v3 v4 v5 v6 : Value} (h : Law.Is w b 25 #[v0, v1, v2, v3, v4, v5, v6]) : (partAt ⟨b, 0, none⟩ 6 56).run Tryd.prog w = .ok ⟨b, 6, none⟩ w := by
  unfold Law.Is at h
  have e0 : Tryd.prog.cellsOf 25 = 7 := by kernel_rfl
  have e1 : Tryd.prog.bytesOf 25 = 80 := by kernel_rfl
  have e2 : byteOfCell Tryd.prog Tryd.prog.depth 25 0 = some 0 := by kernel_rfl
  have e3 : byteOfCell Tryd.prog Tryd.prog.depth 25 6 = some 56 := by kernel_rfl
  have e4 : ∀ g : Option (TypeId × Nat) → Sem (Option (TypeId × Nat)), (Sem.shape b g).run Tryd.prog w = (g (w.shape? b)).run Tryd.prog w := fun g => rfl
  have e5 : w.shape? b = some (25, 7) := by simp [World.shape?, h]
  simp [partAt, byteOf, noView, viewAt, shape, getObj, go_sem, e0, e1, e2, e3, e4, e5]
set_option maxRecDepth 100000 in
set_option maxHeartbeats 2000000 in
theorem rbad5 (user : ByteArray) (id st pr ttl : Int) (A : Option Addr) (c : Nat) (us : List ByteArray) {w : World} (hs : Seq w 0 w.heap.size A (us.map .string)) (hl : us.length ≤ 1000) (hz : ∀ u ∈ us, u.size ≤ maxLen) {r : Bool} (hr : (!((decide (1 ≤ us.length) && decide (us.length ≤ 8)) && us.all nameB)) = r) :
    Calls Tryd.prog 6 #[.agg #[.int .i64 5, .string user, .int .i64 id, .int .i64 st, .int .i64 pr, .int .u64 ttl, .slice A us.length c]] w fun e w' => e = .returned (.bool r) ∧ Below w.heap.size w w' := by
  have bb := (Below.refl w.heap.size w).alloc (Nat.le_refl _) (.cells #[.int .i64 5, .string user, .int .i64 id, .int .i64 st, .int .i64 pr, .int .u64 ttl, .slice A us.length c] 25)
  have HS1 := Lib.hid ((hs.below bb).more bb.size)
  have HX := Lib.hid (Is.new w 25 #[.int .i64 5, .string user, .int .i64 id, .int .i64 st, .int .i64 pr, .int .u64 ttl, .slice A us.length c] rfl)
  have HB := Lib.hid bb
  have HZ := Lib.hid hz
  have HR := Lib.hid hr
  clear hs hz bb hr
  by_cases h1 : us.length < 1
  · skip
    cases hid : decide (0 ≤ id) <;>
    · have HB0 : Hid (true = !(decide (1 ≤ us.length) && decide (us.length ≤ 8))) := by show _ = _; rw [Bool.eq_iff_iff]; simp only [Bool.not_eq_true', Bool.and_eq_false_iff, decide_eq_false_iff_not, true_iff]; omega
      have l1 : decide ((us.length : Int) < 1) = true := decide_eq_true (by omega)
      have l2 : decide ((8 : Int) < (us.length : Int)) = false := decide_eq_false (by omega)
      go_enter Tryd.func6, Tryd.ntmps6
      go_wp2_with fail
      generalize (w.alloc (.cells #[.int .i64 5, .string user, .int .i64 id, .int .i64 st, .int .i64 pr, .int .u64 ttl, .slice A us.length c] 25)) = w1 at *
      have lx := HX.out.lt
      have c6 : w1.cell? ⟨w.heap.size, 6, none⟩ = some (.slice A us.length c) := HX.out.cell' rfl
      have hpart := op_part HX.out
      go_loop [4, 5] (fun v i => ∃ j : Nat, j ≤ us.length ∧ i = .int .i64 j ∧ v = .bool (true || !(us.take j).all nameB)) (fun _ i => us.length - (intOf i).toNat)
      case atStart => exact ⟨0, Nat.zero_le _, rfl, by simp⟩
      case round =>
        obtain ⟨j, hj, rfl, rfl⟩ := hrel
        by_cases hlt : j < us.length
        · obtain ⟨b, off, rfl, _, hb, c0⟩ := HS1.out.str hlt
          have e1 : decide ((j : Int) < (us.length : Int)) = true := by simp; omega
          have HT : Hid ((us.take (j + 1)).all nameB = ((us.take j).all nameB && nameB us[j])) := by show _ = _; rw [List.take_succ_eq_append_getElem hlt, List.all_append]; simp
          have hzu := Lib.hid (HZ.out _ (List.getElem_mem hlt))
          generalize us[j] = u at *
          cases hv : (true || !(us.take j).all nameB) with
          | true =>
            go_wp2_with fail
            go_round
            case rel => exact ⟨j + 1, by omega, by go_num, by rw [HT.out]; simp_all⟩
            case measure => simp [intOf]; omega
          | false =>
            go_wp2_with fail
            refine (rname u _ hzu.out rfl).mono ?_
            rintro e w' ⟨rfl, rfl⟩
            go_wp2_with fail
            go_round
            case rel => exact ⟨j + 1, by omega, by go_num, by rw [HT.out]; simp_all⟩
            case measure => simp [intOf]; omega
        · have e1 : us.take j = us := List.take_of_length_le (by omega)
          have e2 : decide ((j : Int) < (us.length : Int)) = false := by simp; omega
          rw [e1]
          go_wp2_with fail
          go_ret
          exact ⟨by rw [← HR.out, Bool.not_and, ← HB0.out]; rfl, HB.out⟩
  · by_cases h2 : 8 < us.length
    · skip
      cases hid : decide (0 ≤ id) <;>
      · have HB0 : Hid (true = !(decide (1 ≤ us.length) && decide (us.length ≤ 8))) := by show _ = _; rw [Bool.eq_iff_iff]; simp only [Bool.not_eq_true', Bool.and_eq_false_iff, decide_eq_false_iff_not, true_iff]; omega
        have l1 : decide ((us.length : Int) < 1) = false := decide_eq_false (by omega)
        have l2 : decide ((8 : Int) < (us.length : Int)) = true := decide_eq_true (by omega)
        go_enter Tryd.func6, Tryd.ntmps6
        go_wp2_with fail
        generalize (w.alloc (.cells #[.int .i64 5, .string user, .int .i64 id, .int .i64 st, .int .i64 pr, .int .u64 ttl, .slice A us.length c] 25)) = w1 at *
        have lx := HX.out.lt
        have c6 : w1.cell? ⟨w.heap.size, 6, none⟩ = some (.slice A us.length c) := HX.out.cell' rfl
        have hpart := op_part HX.out
        go_loop [4, 5] (fun v i => ∃ j : Nat, j ≤ us.length ∧ i = .int .i64 j ∧ v = .bool (true || !(us.take j).all nameB)) (fun _ i => us.length - (intOf i).toNat)
        case atStart => exact ⟨0, Nat.zero_le _, rfl, by simp⟩
        case round =>
          obtain ⟨j, hj, rfl, rfl⟩ := hrel
          by_cases hlt : j < us.length
          · obtain ⟨b, off, rfl, _, hb, c0⟩ := HS1.out.str hlt
            have e1 : decide ((j : Int) < (us.length : Int)) = true := by simp; omega
            have HT : Hid ((us.take (j + 1)).all nameB = ((us.take j).all nameB && nameB us[j])) := by show _ = _; rw [List.take_succ_eq_append_getElem hlt, List.all_append]; simp
            have hzu := Lib.hid (HZ.out _ (List.getElem_mem hlt))
            generalize us[j] = u at *
            cases hv : (true || !(us.take j).all nameB) with
            | true =>
              go_wp2_with fail
              go_round
              case rel => exact ⟨j + 1, by omega, by go_num, by rw [HT.out]; simp_all⟩
              case measure => simp [intOf]; omega
            | false =>
              go_wp2_with fail
              refine (rname u _ hzu.out rfl).mono ?_
              rintro e w' ⟨rfl, rfl⟩
              go_wp2_with fail
              go_round
              case rel => exact ⟨j + 1, by omega, by go_num, by rw [HT.out]; simp_all⟩
              case measure => simp [intOf]; omega
          · have e1 : us.take j = us := List.take_of_length_le (by omega)
            have e2 : decide ((j : Int) < (us.length : Int)) = false := by simp; omega
            rw [e1]
            go_wp2_with fail
            go_ret
            exact ⟨by rw [← HR.out, Bool.not_and, ← HB0.out]; rfl, HB.out⟩
    · skip
      cases hid : decide (0 ≤ id) <;>
      · have HB0 : Hid (false = !(decide (1 ≤ us.length) && decide (us.length ≤ 8))) := by show _ = _; rw [Bool.eq_iff_iff]; simp only [Bool.not_eq_true', Bool.and_eq_false_iff, decide_eq_false_iff_not, Bool.false_eq_true, false_iff]; omega
        have l1 : decide ((us.length : Int) < 1) = false := decide_eq_false (by omega)
        have l2 : decide ((8 : Int) < (us.length : Int)) = false := decide_eq_false (by omega)
        go_enter Tryd.func6, Tryd.ntmps6
        go_wp2_with fail
        generalize (w.alloc (.cells #[.int .i64 5, .string user, .int .i64 id, .int .i64 st, .int .i64 pr, .int .u64 ttl, .slice A us.length c] 25)) = w1 at *
        have lx := HX.out.lt
        have c6 : w1.cell? ⟨w.heap.size, 6, none⟩ = some (.slice A us.length c) := HX.out.cell' rfl
        have hpart := op_part HX.out
        go_loop [4, 5] (fun v i => ∃ j : Nat, j ≤ us.length ∧ i = .int .i64 j ∧ v = .bool (false || !(us.take j).all nameB)) (fun _ i => us.length - (intOf i).toNat)
        case atStart => exact ⟨0, Nat.zero_le _, rfl, by simp⟩
        case round =>
          obtain ⟨j, hj, rfl, rfl⟩ := hrel
          by_cases hlt : j < us.length
          · obtain ⟨b, off, rfl, _, hb, c0⟩ := HS1.out.str hlt
            have e1 : decide ((j : Int) < (us.length : Int)) = true := by simp; omega
            have HT : Hid ((us.take (j + 1)).all nameB = ((us.take j).all nameB && nameB us[j])) := by show _ = _; rw [List.take_succ_eq_append_getElem hlt, List.all_append]; simp
            have hzu := Lib.hid (HZ.out _ (List.getElem_mem hlt))
            generalize us[j] = u at *
            cases hv : (false || !(us.take j).all nameB) with
            | true =>
              go_wp2_with fail
              go_round
              case rel => exact ⟨j + 1, by omega, by go_num, by rw [HT.out]; simp_all⟩
              case measure => simp [intOf]; omega
            | false =>
              go_wp2_with fail
              refine (rname u _ hzu.out rfl).mono ?_
              rintro e w' ⟨rfl, rfl⟩
              go_wp2_with fail
              go_round
              case rel => exact ⟨j + 1, by omega, by go_num, by rw [HT.out]; simp_all⟩
              case measure => simp [intOf]; omega
          · have e1 : us.take j = us := List.take_of_length_le (by omega)
            have e2 : decide ((j : Int) < (us.length : Int)) = false := by simp; omega
            rw [e1]
            go_wp2_with fail
            go_ret
            exact ⟨by rw [← HR.out, Bool.not_and, ← HB0.out]; rfl, HB.out⟩
/-- the reference's Bad, of any op -/
theorem rbad (q : OpW) {w : World} (h : q.In w) (hl : q.us.length ≤ 1000) {r : Bool} (hr : (!goodB q) = r) : Calls Tryd.prog 6 #[.agg q.box] w fun e w' => e = .returned (.bool r) ∧ Below w.heap.size w w' := by
  obtain ⟨kind, user, id, st, pr, ttl, A, c, us⟩ := q
  obtain ⟨hs, hl', _, hz, hu, _⟩ := h
  simp only at hs hl' hz hu hl
  have hid : (decide (0 ≤ id) && decide (id < 256)) = idB id := by rw [Bool.eq_iff_iff]; simp only [idB, Bool.and_eq_true, decide_eq_true_eq]; omega
  unfold goodB at hr
  simp only at hr
  show Calls _ _ #[.agg #[.int .i64 kind, .string user, .int .i64 id, .int .i64 st, .int .i64 pr, .int .u64 ttl, .slice A us.length c]] _ _
  by_cases hk : 1 ≤ kind ∧ kind ≤ 9
  · have h9 : kind = 1 ∨ kind = 2 ∨ kind = 3 ∨ kind = 4 ∨ kind = 5 ∨ kind = 6 ∨ kind = 7 ∨ kind = 8 ∨ kind = 9 := by omega
    rcases h9 with rfl | rfl | rfl | rfl | rfl | rfl | rfl | rfl | rfl
    · refine rbad1 user id st pr ttl A c us hu ?_
      rw [if_pos rfl] at hr
      rw [← hr]
      cases nameB user with
      | false => rfl
      | true =>
        simp only [Bool.true_and]
        congr 1
        rw [Bool.eq_iff_iff]
        simp only [idB, Bool.and_eq_true, decide_eq_true_eq]
        omega
    · exact rbad2 user id st pr ttl A c us hu (by rw [hid, ← hr]; rfl)
    · exact rbad3 user id st pr ttl A c us hu (by rw [hid, ← hr]; rfl)
    · exact rbad4 user id st pr ttl A c us hu (by rw [← hr]; rfl)
    · exact rbad5 user id st pr ttl A c us hs hl hz (by rw [← hr]; rfl)
    · exact rbad6 user id st pr ttl A c us hu (by rw [← hr]; rfl)
    · exact rbad7 user id st pr ttl A c us hu (by rw [← hr]; rfl)
    · exact rbad8 user id st pr ttl A c us (by rw [← hr]; rfl)
    · exact rbad9 user id st pr ttl A c us (by rw [← hr]; rfl)
  · rw [if_neg (by omega), if_neg (by omega), if_neg (by omega), if_neg (by omega), decide_eq_false (by omega)] at hr
    subst hr
    exact rbad0 user id st pr ttl A c us hk rfl
theorem good_kind {q : OpW} (h : goodB q = true) : 1 ≤ q.kind ∧ q.kind ≤ 9 := by
  unfold goodB at h
  by_cases h1 : q.kind = 1
  · omega
  rw [if_neg h1] at h
  by_cases h2 : q.kind = 2 ∨ q.kind = 3
  · omega
  rw [if_neg h2] at h
  by_cases h3 : q.kind = 4 ∨ q.kind = 6 ∨ q.kind = 7
  · omega
  rw [if_neg h3] at h
  by_cases h4 : q.kind = 5
  · omega
  rw [if_neg h4] at h
  have := of_decide_eq_true h
  omega
end Opx
end Go.Proofs.YtdfonlbbohnfhaaDoor
