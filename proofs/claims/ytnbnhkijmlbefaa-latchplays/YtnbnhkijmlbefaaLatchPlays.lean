/-
  LatchPlays: whatever the acts, the statement's function returns true, and the argument reads as before. No condition.
-/
import Derived.Test.YtnbnhkijmlbefaaLatch03
namespace Go.Proofs.Ytnbnhkijmlbefaa.latchPlays
open Go.ChangeShapes Go.WideShapes Go.ChangeAt Go.RowKit
open Go.Law Go.Proofs.Ytnbnhkijmlbefaa.Lt

set_option maxRecDepth 100000 in
set_option maxHeartbeats 3200000 in
theorem walk (A : Option Addr) (c : Nat) (l : List (Bool × Int)) (hn : l.length ≤ 400) (hI : ∀ q ∈ l, I64 q.2) (w : World) (hf : Seq w 0 w.heap.size A (l.flatMap cellsA)) :
    Calls Try.prog 3 #[.slice A l.length c] w fun e w' => e = .returned (.bool true) ∧ Below w.heap.size w w' := by
  have d0 : decide (400 < (l.length : Int)) = false := by simp; omega
  have HF := Lib.hid hf
  have HI := Lib.hid hI
  clear hf hI
  go_enter Try.func3, Try.ntmps3
  go_wp2_with fail
  refine (awake w).mono ?_
  rintro e w1 ⟨rfl, b1⟩
  have H1 := Lib.hid (Has.new 0 b1)
  clear b1
  go_wp2_with fail
  generalize w1.alloc (C 0) = w2 at *
  generalize w1.heap.size = g at *
  go_loopw [4, 5] (fun o i wr => ∃ (k : Nat) (x : Int), k ≤ l.length ∧ i = .int .i64 k ∧ o = .int .i64 (x - 1) ∧ Ok x ∧ Has w g x wr) (fun _ i _ => l.length - (intOf i).toNat)
  case atStart => exact ⟨0, 0, Nat.zero_le _, rfl, rfl, by unfold Ok; omega, H1.out⟩
  case round =>
    clear H1
    obtain ⟨k, x, hk, rfl, rfl, hO, hH⟩ := hrel
    have HO := Lib.hid hO
    have HH := Lib.hid hH
    clear hO hH
    by_cases hlt : k < l.length
    · have e1 : decide ((k : Int) < (l.length : Int)) = true := by simp; omega
      obtain ⟨q, off, rfl, hq, q0, q1⟩ := act_at (HF.out.below HH.out.below) hlt
      have ha := Lib.hid (HI.out _ (List.getElem_mem hlt))
      have c0 := HH.out.c0
      have l0 := HH.out.lt
      have lq : q < wr.heap.size := block_lt_of_cell q0
      have hqg : q < g := Nat.lt_of_lt_of_le hq HH.out.ge
      generalize l[k] = z at *
      obtain ⟨give_, a⟩ := z
      simp only at q0 q1 ha
      by_cases hm : a = 9223372036854775807
      · subst hm
        go_wp2_with fail
        go_ret
        exact ⟨rfl, HH.out.below⟩
      · have dm : (a == 9223372036854775807) = false := by simpa using hm
        have HM := Lib.hid hm
        clear hm
        have ho : ∃ o : Int, x - 1 = o := ⟨_, rfl⟩
        obtain ⟨o, ho⟩ := ho
        have HX := Lib.hid ho
        rw [ho]
        clear ho
        cases give_ with
        | true =>
          obtain ⟨y, b, hy⟩ : ∃ y b, gv x a = (y, b) := ⟨_, _, rfl⟩
          have HY := Lib.hid hy
          have HOY := Lib.hid (by have := gv_ok (a := a) HO.out; rw [hy] at this; exact this : Ok y)
          clear hy
          go_wp2_with fail
          refine wp_region_held_drew (S := fun w' => w'.cell? ⟨q, off + k * 2 + 1, none⟩ = some (.int .i64 a)) (by kernel_rfl) q1 (fun hS0 => ?_)
          refine wpAnyH_take (i := 1) (oi := { dst := some 35, op := .move (.tmp 0), type := _, pos := _, after := _, guard := _ }) (v := .slice (some ⟨q, off, none⟩) l.length c) rfl (by kernel_rfl) (by kernel_rfl) (by kernel_rfl) (fun _ _ _ h => h) (Or.inl ⟨by rfl, ?_⟩) hS0 ?_
          · intro w' hSw
            go_simp
          try simp only [Act.put, List.setIfInBounds_toArray, List.set_cons_zero, List.set_cons_succ]
          refine wpAnyH_take (i := 2) (oi := { dst := some 36, op := .move (.tmp 5), type := _, pos := _, after := _, guard := _ }) (v := .int .i64 (k : Int)) rfl (by kernel_rfl) (by kernel_rfl) (by kernel_rfl) (fun _ _ _ h => h) (Or.inl ⟨by rfl, ?_⟩) hS0 ?_
          · intro w' hSw
            go_simp
          try simp only [Act.put, List.setIfInBounds_toArray, List.set_cons_zero, List.set_cons_succ]
          refine wpAnyH_take (i := 3) (oi := { dst := some 37, op := .indexAddr 22 (.tmp 35) (.tmp 36), type := _, pos := _, after := _, guard := _ }) (v := .pointer (some ⟨q, off + k * 2, none⟩)) rfl (by kernel_rfl) (by kernel_rfl) (by kernel_rfl) (fun _ _ _ h => h) (Or.inl ⟨by rfl, ?_⟩) hS0 ?_
          · intro w' hSw
            go_simp; (try (intro h8; omega))
          try simp only [Act.put, List.setIfInBounds_toArray, List.set_cons_zero, List.set_cons_succ]
          refine wpAnyH_take (i := 4) (oi := { dst := some 38, op := .fieldAddr 27 (.tmp 37) 1, type := _, pos := _, after := _, guard := _ }) (v := .pointer (some ⟨q, off + k * 2 + 1, none⟩)) rfl (by kernel_rfl) (by kernel_rfl) (by kernel_rfl) (fun _ _ _ h => h) (Or.inl ⟨by rfl, ?_⟩) hS0 ?_
          · intro w' hSw
            go_simp
          try simp only [Act.put, List.setIfInBounds_toArray, List.set_cons_zero, List.set_cons_succ]
          refine wpAnyH_take (i := 5) (oi := { dst := some 39, op := .load 3 (.tmp 38), type := _, pos := _, after := _, guard := _ }) (v := .int .i64 a) rfl (by kernel_rfl) (by kernel_rfl) (by kernel_rfl) (fun _ _ _ h => h) (Or.inl ⟨by rfl, ?_⟩) hS0 ?_
          · intro w' hSw
            have s1 := hSw
            go_simp
          try simp only [Act.put, List.setIfInBounds_toArray, List.set_cons_zero, List.set_cons_succ]
          refine wpAnyH_ready (rs := [0]) (by kernel_rfl) (by simp) ?_
          refine AllReadyH.cons (o := { dst := some 34, op := .load 25 (.tmp 3), type := _, pos := _, after := _, guard := _ }) rfl (fun K hK => ?_) AllReadyH.nil
          go_simp
          refine hK.out _ _ hS0 (fun hS1 => ?_)
          clear hK K
          try simp only [Act.put, List.setIfInBounds_toArray, List.set_cons_zero, List.set_cons_succ]
          refine wpAnyH_ready (rs := [6]) (by kernel_rfl) (by simp) ?_
          refine AllReadyH.cons (o := { dst := some 40, op := .call { callee := .value (.func 9), args := #[.tmp 34, .tmp 39], argTypes := _ }, type := _, pos := _, after := _, guard := _ }) rfl (fun K hK => ?_) AllReadyH.nil
          go_simp
          refine Calls.mono (give1 x a HO.out y b HY.out _) ?_
          rintro e w5 ⟨rfl, b5⟩
          have H5 := Lib.hid ((HH.out.drewN 1).next b5)
          have c5 := H5.out.c0
          have f5 := H5.out.is.frozen 0
          have l5 := H5.out.lt
          go_wp2_with fail
          refine hK.out _ _ ((b5.cell lq).trans hS1) (fun hS2 => ?_)
          clear hK K
          try simp only [Act.put, List.setIfInBounds_toArray, List.set_cons_zero, List.set_cons_succ]
          refine wpAnyH_take (i := 7) (oi := { dst := some 33, op := .move (.tmp 40), type := _, pos := _, after := _, guard := _ }) (v := .tuple #[K y, .bool b]) rfl (by kernel_rfl) (by kernel_rfl) (by kernel_rfl) (fun _ _ _ h => h) (Or.inl ⟨by rfl, ?_⟩) hS2 ?_
          · intro w' hSw
            go_simp
          try simp only [Act.put, List.setIfInBounds_toArray, List.set_cons_zero, List.set_cons_succ]
          refine wpAnyH_take (i := 8) (oi := { dst := some 41, op := .extract (.tmp 33) 0, type := _, pos := _, after := _, guard := _ }) (v := K y) rfl (by kernel_rfl) (by kernel_rfl) (by kernel_rfl) (fun _ _ _ h => h) (Or.inl ⟨by rfl, ?_⟩) hS2 ?_
          · intro w' hSw
            go_simp
          try simp only [Act.put, List.setIfInBounds_toArray, List.set_cons_zero, List.set_cons_succ]
          refine wpAnyH_take (i := 9) (oi := { dst := some 42, op := .extract (.tmp 33) 1, type := _, pos := _, after := _, guard := _ }) (v := .bool b) rfl (by kernel_rfl) (by kernel_rfl) (by kernel_rfl) (fun _ _ _ h => h) (Or.inl ⟨by rfl, ?_⟩) hS2 ?_
          · intro w' hSw
            go_simp
          try simp only [Act.put, List.setIfInBounds_toArray, List.set_cons_zero, List.set_cons_succ]
          refine wpAnyH_ready (rs := [10]) (by kernel_rfl) (by simp) ?_
          refine AllReadyH.cons (o := { dst := none, op := .store 25 (.tmp 3) (.tmp 41), type := _, pos := _, after := _, guard := _ }) rfl (fun K hK => ?_) AllReadyH.nil
          go_simp
          refine hK.out _ _ ((World.cell?_setCell_far _ _ _ _ (by simp only []; omega)).trans hS2) (fun hS3 => ?_)
          clear hK K
          try simp only [Act.put, List.setIfInBounds_toArray, List.set_cons_zero, List.set_cons_succ]
          refine wpAnyH_take (i := 11) (oi := { dst := some 6, op := .assign (.tmp 42), type := _, pos := _, after := _, guard := _ }) (v := .bool b) rfl (by kernel_rfl) (by kernel_rfl) (by kernel_rfl) (fun _ _ _ h => h) (Or.inl ⟨by rfl, ?_⟩) hS3 ?_
          · intro w' hSw
            go_simp
          try simp only [Act.put, List.setIfInBounds_toArray, List.set_cons_zero, List.set_cons_succ]
          refine wpAnyH_done (by kernel_rfl) ?_ _
          have H6 := Lib.hid (H5.out.put y)
          have q6 := hS3
          clear H5 c5 f5 l5 hS0 hS1 hS2 hS3 c0 l0 q0 q1 b5
          generalize w5.setCell ⟨g, 0, none⟩ (.int .i64 y) = w6 at *
          obtain ⟨o', ho'⟩ : ∃ o' : Int, y - 1 = o' := ⟨_, rfl⟩
          have HX' := Lib.hid ho'
          clear ho'
          have c6 := H6.out.c0
          have l6 := H6.out.lt
          have lq6 : q < w6.heap.size := block_lt_of_cell q6
          go_wp2_with fail
          refine (refGive1 x a y b HO.out HY.out o o' HX.out HX'.out _).mono ?_
          rintro e w7 ⟨rfl, rfl⟩
          have d1 : (one? b == 1) = b := one_eq b
          have d2 : (b != b) = false := by simp
          have d3 : (o' != o') = false := by simp
          have d4 : decide (o' < 0) = (y == 0) := by have := HX'.out; have := HOY.out; unfold Ok at this; rw [Bool.eq_iff_iff]; simp; omega
          obtain ⟨r, hr⟩ : ∃ r, (y == 0) = r := ⟨_, rfl⟩
          rw [hr] at d4
          have HR := Lib.hid hr
          clear hr
          have d5 : (r != r) = false := by simp
          go_wp2_with fail
          refine (ownerB y HOY.out o' HX'.out _).mono ?_
          rintro e w8 ⟨rfl, b8⟩
          have H8 := Lib.hid (H6.out.next b8)
          clear b8 H6 c6 l6
          have c8 := H8.out.c0
          have l8 := H8.out.lt
          go_wp2_with fail
          refine (freeB y r HR.out _).mono ?_
          rintro e w9 ⟨rfl, b9⟩
          have H9 := Lib.hid (H8.out.next b9)
          clear b9 H8 c8 l8
          go_wp2_with fail
          go_roundw
          case rel => exact ⟨k + 1, y, by omega, by go_num, by rw [HX'.out], HOY.out, H9.out⟩
          case measure => simp [intOf]; omega
        | false =>
          obtain ⟨y, b, hy⟩ : ∃ y b, tk x a = (y, b) := ⟨_, _, rfl⟩
          have HY := Lib.hid hy
          have HOY := Lib.hid (by have := tk_ok (a := a) HO.out; rw [hy] at this; exact this : Ok y)
          clear hy
          go_wp2_with fail
          refine wp_region_held_drew (S := fun w' => w'.cell? ⟨q, off + k * 2 + 1, none⟩ = some (.int .i64 a)) (by kernel_rfl) q1 (fun hS0 => ?_)
          refine wpAnyH_take (i := 1) (oi := { dst := some 55, op := .move (.tmp 0), type := _, pos := _, after := _, guard := _ }) (v := .slice (some ⟨q, off, none⟩) l.length c) rfl (by kernel_rfl) (by kernel_rfl) (by kernel_rfl) (fun _ _ _ h => h) (Or.inl ⟨by rfl, ?_⟩) hS0 ?_
          · intro w' hSw
            go_simp
          try simp only [Act.put, List.setIfInBounds_toArray, List.set_cons_zero, List.set_cons_succ]
          refine wpAnyH_take (i := 2) (oi := { dst := some 56, op := .move (.tmp 5), type := _, pos := _, after := _, guard := _ }) (v := .int .i64 (k : Int)) rfl (by kernel_rfl) (by kernel_rfl) (by kernel_rfl) (fun _ _ _ h => h) (Or.inl ⟨by rfl, ?_⟩) hS0 ?_
          · intro w' hSw
            go_simp
          try simp only [Act.put, List.setIfInBounds_toArray, List.set_cons_zero, List.set_cons_succ]
          refine wpAnyH_take (i := 3) (oi := { dst := some 57, op := .indexAddr 22 (.tmp 55) (.tmp 56), type := _, pos := _, after := _, guard := _ }) (v := .pointer (some ⟨q, off + k * 2, none⟩)) rfl (by kernel_rfl) (by kernel_rfl) (by kernel_rfl) (fun _ _ _ h => h) (Or.inl ⟨by rfl, ?_⟩) hS0 ?_
          · intro w' hSw
            go_simp; (try (intro h8; omega))
          try simp only [Act.put, List.setIfInBounds_toArray, List.set_cons_zero, List.set_cons_succ]
          refine wpAnyH_take (i := 4) (oi := { dst := some 58, op := .fieldAddr 27 (.tmp 57) 1, type := _, pos := _, after := _, guard := _ }) (v := .pointer (some ⟨q, off + k * 2 + 1, none⟩)) rfl (by kernel_rfl) (by kernel_rfl) (by kernel_rfl) (fun _ _ _ h => h) (Or.inl ⟨by rfl, ?_⟩) hS0 ?_
          · intro w' hSw
            go_simp
          try simp only [Act.put, List.setIfInBounds_toArray, List.set_cons_zero, List.set_cons_succ]
          refine wpAnyH_take (i := 5) (oi := { dst := some 59, op := .load 3 (.tmp 58), type := _, pos := _, after := _, guard := _ }) (v := .int .i64 a) rfl (by kernel_rfl) (by kernel_rfl) (by kernel_rfl) (fun _ _ _ h => h) (Or.inl ⟨by rfl, ?_⟩) hS0 ?_
          · intro w' hSw
            have s1 := hSw
            go_simp
          try simp only [Act.put, List.setIfInBounds_toArray, List.set_cons_zero, List.set_cons_succ]
          refine wpAnyH_ready (rs := [0]) (by kernel_rfl) (by simp) ?_
          refine AllReadyH.cons (o := { dst := some 54, op := .load 25 (.tmp 3), type := _, pos := _, after := _, guard := _ }) rfl (fun K hK => ?_) AllReadyH.nil
          go_simp
          refine hK.out _ _ hS0 (fun hS1 => ?_)
          clear hK K
          try simp only [Act.put, List.setIfInBounds_toArray, List.set_cons_zero, List.set_cons_succ]
          refine wpAnyH_ready (rs := [6]) (by kernel_rfl) (by simp) ?_
          refine AllReadyH.cons (o := { dst := some 60, op := .call { callee := .value (.func 11), args := #[.tmp 54, .tmp 59], argTypes := _ }, type := _, pos := _, after := _, guard := _ }) rfl (fun K hK => ?_) AllReadyH.nil
          go_simp
          refine Calls.mono (take1 x a y b HY.out _) ?_
          rintro e w5 ⟨rfl, b5⟩
          have H5 := Lib.hid ((HH.out.drewN 1).next b5)
          have c5 := H5.out.c0
          have f5 := H5.out.is.frozen 0
          have l5 := H5.out.lt
          go_wp2_with fail
          refine hK.out _ _ ((b5.cell lq).trans hS1) (fun hS2 => ?_)
          clear hK K
          try simp only [Act.put, List.setIfInBounds_toArray, List.set_cons_zero, List.set_cons_succ]
          refine wpAnyH_take (i := 7) (oi := { dst := some 53, op := .move (.tmp 60), type := _, pos := _, after := _, guard := _ }) (v := .tuple #[K y, .bool b]) rfl (by kernel_rfl) (by kernel_rfl) (by kernel_rfl) (fun _ _ _ h => h) (Or.inl ⟨by rfl, ?_⟩) hS2 ?_
          · intro w' hSw
            go_simp
          try simp only [Act.put, List.setIfInBounds_toArray, List.set_cons_zero, List.set_cons_succ]
          refine wpAnyH_take (i := 8) (oi := { dst := some 61, op := .extract (.tmp 53) 0, type := _, pos := _, after := _, guard := _ }) (v := K y) rfl (by kernel_rfl) (by kernel_rfl) (by kernel_rfl) (fun _ _ _ h => h) (Or.inl ⟨by rfl, ?_⟩) hS2 ?_
          · intro w' hSw
            go_simp
          try simp only [Act.put, List.setIfInBounds_toArray, List.set_cons_zero, List.set_cons_succ]
          refine wpAnyH_take (i := 9) (oi := { dst := some 62, op := .extract (.tmp 53) 1, type := _, pos := _, after := _, guard := _ }) (v := .bool b) rfl (by kernel_rfl) (by kernel_rfl) (by kernel_rfl) (fun _ _ _ h => h) (Or.inl ⟨by rfl, ?_⟩) hS2 ?_
          · intro w' hSw
            go_simp
          try simp only [Act.put, List.setIfInBounds_toArray, List.set_cons_zero, List.set_cons_succ]
          refine wpAnyH_ready (rs := [10]) (by kernel_rfl) (by simp) ?_
          refine AllReadyH.cons (o := { dst := none, op := .store 25 (.tmp 3) (.tmp 61), type := _, pos := _, after := _, guard := _ }) rfl (fun K hK => ?_) AllReadyH.nil
          go_simp
          refine hK.out _ _ ((World.cell?_setCell_far _ _ _ _ (by simp only []; omega)).trans hS2) (fun hS3 => ?_)
          clear hK K
          try simp only [Act.put, List.setIfInBounds_toArray, List.set_cons_zero, List.set_cons_succ]
          refine wpAnyH_take (i := 11) (oi := { dst := some 6, op := .assign (.tmp 62), type := _, pos := _, after := _, guard := _ }) (v := .bool b) rfl (by kernel_rfl) (by kernel_rfl) (by kernel_rfl) (fun _ _ _ h => h) (Or.inl ⟨by rfl, ?_⟩) hS3 ?_
          · intro w' hSw
            go_simp
          try simp only [Act.put, List.setIfInBounds_toArray, List.set_cons_zero, List.set_cons_succ]
          refine wpAnyH_done (by kernel_rfl) ?_ _
          have H6 := Lib.hid (H5.out.put y)
          have q6 := hS3
          clear H5 c5 f5 l5 hS0 hS1 hS2 hS3 c0 l0 q0 q1 b5
          generalize w5.setCell ⟨g, 0, none⟩ (.int .i64 y) = w6 at *
          obtain ⟨o', ho'⟩ : ∃ o' : Int, y - 1 = o' := ⟨_, rfl⟩
          have HX' := Lib.hid ho'
          clear ho'
          have c6 := H6.out.c0
          have l6 := H6.out.lt
          have lq6 : q < w6.heap.size := block_lt_of_cell q6
          go_wp2_with fail
          refine (refTake1 x a y b HO.out ha.out HM.out HY.out o o' HX.out HX'.out _).mono ?_
          rintro e w7 ⟨rfl, rfl⟩
          have d1 : (one? b == 1) = b := one_eq b
          have d2 : (b != b) = false := by simp
          have d3 : (o' != o') = false := by simp
          have d4 : decide (o' < 0) = (y == 0) := by have := HX'.out; have := HOY.out; unfold Ok at this; rw [Bool.eq_iff_iff]; simp; omega
          obtain ⟨r, hr⟩ : ∃ r, (y == 0) = r := ⟨_, rfl⟩
          rw [hr] at d4
          have HR := Lib.hid hr
          clear hr
          have d5 : (r != r) = false := by simp
          go_wp2_with fail
          refine (ownerB y HOY.out o' HX'.out _).mono ?_
          rintro e w8 ⟨rfl, b8⟩
          have H8 := Lib.hid (H6.out.next b8)
          clear b8 H6 c6 l6
          have c8 := H8.out.c0
          have l8 := H8.out.lt
          go_wp2_with fail
          refine (freeB y r HR.out _).mono ?_
          rintro e w9 ⟨rfl, b9⟩
          have H9 := Lib.hid (H8.out.next b9)
          clear b9 H8 c8 l8
          go_wp2_with fail
          go_roundw
          case rel => exact ⟨k + 1, y, by omega, by go_num, by rw [HX'.out], HOY.out, H9.out⟩
          case measure => simp [intOf]; omega
    · have e1 : decide ((k : Int) < (l.length : Int)) = false := by simp; omega
      go_wp2_with fail
      go_ret
      exact ⟨rfl, HH.out.below⟩

theorem walkLong (A : Option Addr) (n c : Nat) (hn : 400 < n) (w : World) :
    Calls Try.prog 3 #[.slice A n c] w fun e w' => e = .returned (.bool true) ∧ Below w.heap.size w w' := by
  have d0 : decide (400 < (n : Int)) = true := by simp; omega
  go_enter Try.func3, Try.ntmps3
  go_wp2_with fail
  refine (awake w).mono ?_
  rintro e w1 ⟨rfl, b1⟩
  have HB := Lib.hid b1
  clear b1
  go_wp2_with fail
  refine (awake _).mono ?_
  rintro e w2 ⟨rfl, b2⟩
  have HB2 := Lib.hid (HB.out.trans (b2.mono HB.out.size))
  clear b2
  go_wp2_with fail
  go_ret
  exact ⟨rfl, HB2.out⟩

theorem walk0 (A : Option Addr) (c : Nat) (l : List (Bool × Int)) (hI : ∀ q ∈ l, I64 q.2) (w : World) (hf : Seq w 0 w.heap.size A (l.flatMap cellsA)) :
    Calls Try.prog 3 #[.slice A l.length c] w fun e w' => e = .returned (.bool true) ∧ Below w.heap.size w w' := by
  by_cases h : l.length ≤ 400
  · exact walk A c l h hI w hf
  · exact walkLong A _ c (by omega) w

set_option maxRecDepth 100000 in
theorem lifted (os : Os) (started : os.Started) (H : Type) (enc : TypeId × Value → H) :
    ReturnsInHanded {} Try.checked os 3 .any (Rows.latchPlaysSpec.pre6 enc Try.prog Try.f3 Rows.latchPlaysRow.domain false) (Rows.latchPlaysSpec.post enc Try.prog Try.f3 false true false false) := by
  refine returnsInHanded_of_change (C := Try.checked) own started (by kernel_rfl) Try.func3
    (ChangeSpec.witness6 (enc := enc) (C := Try.checked) false ⟨#[], #[.slice none 0 0], []⟩ 8 (by kernel_rfl) (by kernel_rfl) (by kernel_rfl) (by kernel_rfl)) ?_
  intro W base args ds gs before hval0 hW hcnd _
  have hval : ∀ (j : Nat) t v, Try.f3.params[j]? = some t → args[j]? = some v → Value.okWide Try.prog W .any base t v := hval0
  have hW' := hW
  obtain ⟨p, q, hA0, hV, rfl, hfz, hnd⟩ := hW
  have hA : DataW.TrodAll enc Try.prog W 0 (fun _ => true) true Try.f3.params.toList args.toList ds p := hA0
  rw [Try.params3] at hA hval
  obtain ⟨v0, vs0, d0, ds0, p0, q0, hargs, rfl, rfl, h0, r0⟩ := trodAll_cons hA
  obtain ⟨rfl, rfl, rfl⟩ := trodAll_nil r0
  obtain rfl : args = #[v0] := by cases args; simp_all
  obtain ⟨A, c, l, rfl, hf, hl, hI⟩ := open_acts (hval 0 22 v0 rfl rfl) h0
  refine (walk0 A c l hI W hf).mono fun e W' ⟨he, bel⟩ => ?_
  subst he
  exact ⟨_, rfl, Law.post_law laidOut (by kernel_rfl) (by kernel_rfl) Try.underlying4 rfl (fun ds h => by match ds, h with | [_], _ => rfl) hW' bel⟩

theorem proved : Rows.LatchPlaysSaid :=
  OpenClaim.holds_of_wide 3 Try.f3 rfl rfl rfl rfl rfl rfl rfl ⟨rfl, rfl, rfl, rfl, rfl⟩ rfl rfl rfl rfl rfl (by kernel_rfl) Try.func3 (by kernel_rfl)
    (of_decide_eq_true (by kernel_rfl)) (by unfold Func.isWrapper; rw [if_neg (by decide +kernel)]; exact ⟨rfl, rfl⟩)
    (fun os started H enc _ => lifted os started H enc)
#print axioms proved
end Go.Proofs.Ytnbnhkijmlbefaa.latchPlays
