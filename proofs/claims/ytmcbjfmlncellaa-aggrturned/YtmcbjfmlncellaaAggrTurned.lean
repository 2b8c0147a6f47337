/-
  AggrTurned: whatever the sessions and the time, the statement's function returns true, and the arguments read as before. No condition. (The steps of the drawn statement are laid by mkturned.py.)
-/
import Derived.Test.YtmcbjfmlncellaaAggr04
import Derived.Test.YtmcbjfmlncellaaSessO
import Derived.Test.YtmcbjfmlncellaaSessV
import Derived.Deep.RegionHeld
import Derived.Deep.RegionHeld3
import Derived.OrdersHeld
namespace Go.Law
theorem PV_turned {now : Int} {us : List Sn} (hu : Up us) : top (live now us.reverse) = top (live now us) ∧ (live now us.reverse).length = (live now us).length := by
  have e : live now us.reverse = (live now us).reverse := by unfold live; rw [List.filter_reverse]
  rw [e]
  exact ⟨(top_same (fun a b ha hb h => Up.one (live_up now hu) ha hb h) (fun q => by simp)).symm, by simp⟩
end Go.Law
namespace Go.Proofs.Ytmcbjfmlncellaa.aggrTurned
open Go.ChangeShapes Go.WideShapes Go.ChangeAt Go.RowKit
open Go.Law Go.Proofs.Ytmcbjfmlncellaa.Aggr Go.Proofs.Ytmcbjfmlncellaa.Sess

set_option maxRecDepth 100000 in
set_option maxHeartbeats 8000000 in
theorem walk (zs : List Sn) (A : Option Addr) (c : Nat) (now : Int) (w : World) (hs : Seq w 0 w.heap.size A (flatS zs)) (hl : zs.length ≤ maxLen) :
    Calls Try.prog 7 #[.slice A zs.length c, .int .u64 now] w fun e w' => e = .returned (.bool true) ∧ Below w.heap.size w w' := by
  obtain ⟨i0, hE⟩ := Sess.elem
  have HE := Lib.hid hE
  have HS := Lib.hid hs
  unfold maxLen at hl
  clear hs hE
  by_cases hf : 200 < zs.length
  · have d0 : decide ((200 : Int) < (zs.length : Int)) = true := by simp; omega
    go_enter Try.func7, Try.ntmps7
    go_wp2_with fail
    refine (Aggr.awake _).mono ?_
    rintro e w1 ⟨rfl, b1⟩
    have B1 := Lib.hid b1
    clear b1
    go_wp2_with fail
    refine (Aggr.awake _).mono ?_
    rintro e w2 ⟨rfl, b2⟩
    have B2 := Lib.hid (B1.out.trans (b2.mono B1.out.size))
    clear b2
    go_wp2_with fail
    go_ret
    exact ⟨rfl, B2.out⟩
  · have d0 : decide ((200 : Int) < (zs.length : Int)) = false := by simp; omega
    go_enter Try.func7, Try.ntmps7
    go_wp2_with fail
    refine (Aggr.awake _).mono ?_
    rintro e w1 ⟨rfl, b1⟩
    have B1 := Lib.hid b1
    have S1 := Lib.hid ((HS.out.below b1).more b1.size)
    clear b1 HS
    go_wp2_with fail
    refine (refSorted zs A c w1 S1.out (by omega)).mono ?_
    rintro e w2 ⟨us, hu, hul, A5, c5, rfl, r2, b2⟩
    have HU := Lib.hid hu
    have S2 := Lib.hid ((Seq.own r2).from_ (Nat.zero_le _))
    have B2 := Lib.hid (B1.out.trans (b2.mono B1.out.size))
    have hul2 : us.length ≤ 200 := by omega
    clear b2 r2 hu B1 S1 hul
    have sb2 := B2.out.size
    go_wp2_with fail
    go_loopw [6, 7] (fun v i wr => ∃ k : Nat, k ≤ us.length ∧ i = .int .i64 ((k : Int) - 1) ∧ Row wr w2.heap.size v (us.drop k).reverse ∧ Below w2.heap.size w2 wr) (fun _ i _ => (intOf i + 1).toNat)
    case atStart => exact ⟨us.length, Nat.le_refl _, by go_num, by rw [List.drop_of_length_le (Nat.le_refl _)]; exact World.ownsRow_nil _ _ _ _, Below.refl _ _⟩
    case round =>
      obtain ⟨k, hk, rfl, hown, hB⟩ := hrel
      have HO := Lib.hid hown
      have HB := Lib.hid hB
      have sb := hB.size
      have hol : ((us.drop k).reverse).length ≤ 200 := by simp; omega
      clear hown hB
      rcases k with _ | j
      · have d1 : decide ((0 : Int) ≤ ((0 : Nat) : Int) - 1) = false := by simp
        rw [List.drop_zero] at HO
        obtain ⟨A1, c1, rfl, _⟩ := own_shape HO.out
        have ST := Lib.hid ((Seq.own HO.out).from_ (Nat.zero_le _))
        have S3 := Lib.hid ((S2.out.below HB.out).more sb)
        have B3 := Lib.hid (B2.out.trans (HB.out.mono sb2))
        clear HO HB S2 B2 hol
        have hml := live_length now us
        obtain ⟨P0, P1, m, e0, e1, e2⟩ : ∃ P0 P1 m, (top (live now us)).2.1 = P0 ∧ (top (live now us)).2.2.1 = P1 ∧ (live now us).length = m := ⟨_, _, _, rfl, rfl, rfl⟩
        have HP : Hid (PV (live now us) = .agg #[.int .i64 P0, .int .i64 P1, .int .i64 (m : Int)]) := by show _ = _; unfold PV; rw [e0, e1, e2]
        have HPT : Hid (PV (live now us.reverse) = .agg #[.int .i64 P0, .int .i64 P1, .int .i64 (m : Int)]) := by show _ = _; unfold PV; rw [(PV_turned HU.out).1, (PV_turned HU.out).2, e0, e1, e2]
        have HPP : Hid (PV (live now (live now us)) = .agg #[.int .i64 P0, .int .i64 P1, .int .i64 (m : Int)]) := by show _ = _; rw [live_live (Int.le_refl _)]; exact HP.out
        have HZ : Hid (m = 0 → P0 = 0 ∧ P1 = 0) := fun h => by
          have h0 : live now us = [] := List.eq_nil_of_length_eq_zero (by omega)
          rw [← e0, ← e1, h0]
          exact ⟨rfl, rfl⟩
        rw [e2] at hml
        have HE2 := Lib.hid e2
        clear e0 e1 e2
        go_wp2_with fail
        refine (ofE now us A5 c5 us.length _ _ rfl HP.out S3.out (by simp [maxLen]; omega)).mono ?_
        rintro e w4 ⟨rfl, b4⟩
        have B4 := B3.out.trans (b4.mono B3.out.size)
        have S4 := (S3.out.below b4).more b4.size
        have T4 := (ST.out.below b4).more b4.size
        have I5 := Is.new w4 33 #[.int .i64 P0, .int .i64 P1, .int .i64 (m : Int)] rfl
        have B5 := Lib.hid (B4.alloc B4.size (.cells #[.int .i64 P0, .int .i64 P1, .int .i64 (m : Int)] 33))
        have S5 := Lib.hid ((S4.alloc (Nat.le_refl _) (.cells #[.int .i64 P0, .int .i64 P1, .int .i64 (m : Int)] 33)).more (Nat.le_of_lt I5.lt))
        have T5 := Lib.hid ((T4.alloc (Nat.le_refl _) (.cells #[.int .i64 P0, .int .i64 P1, .int .i64 (m : Int)] 33)).more (Nat.le_of_lt I5.lt))
        clear b4 B4 S4 T4 S3 ST B3
        go_wp2_with fail
        generalize w4.alloc (.cells #[.int .i64 P0, .int .i64 P1, .int .i64 (m : Int)] 33) = w5 at *
        have k0 : w5.cell? ⟨w4.heap.size, 0, none⟩ = some (.int .i64 P0) := I5.cell' rfl
        have k1 : w5.cell? ⟨w4.heap.size, 1, none⟩ = some (.int .i64 P1) := I5.cell' rfl
        have k2 : w5.cell? ⟨w4.heap.size, 2, none⟩ = some (.int .i64 (m : Int)) := I5.cell' rfl
        have lg := I5.lt
        clear I5
        generalize w4.heap.size = g at *
        have HO1 : Hid (∀ w', Below w5.heap.size w5 w' → Calls Try.prog 13 #[.slice A1 us.length c1, .int .u64 now] w' fun e w'' => e = .returned (.agg #[.int .i64 P0, .int .i64 P1, .int .i64 (m : Int)]) ∧ Below w5.heap.size w5 w'') := fun w' K =>
          (ofE now us.reverse A1 c1 us.length w' _ (by simp) HPT.out ((T5.out.below K).more K.size) (by simp [maxLen]; omega)).mono fun _ _ ⟨h1, h2⟩ => ⟨h1, K.trans (h2.mono K.size)⟩
        have HO2 : Hid (∀ w', Below w5.heap.size w5 w' → Calls Try.prog 10 #[.slice A5 us.length c5, .int .u64 now] w' fun e w'' => ∃ A c, e = .returned (.slice A m c) ∧ Seq w'' 0 w''.heap.size A (flatS (live now us)) ∧ Below w5.heap.size w5 w'') := fun w' K =>
          (refPurge now us A5 c5 w' ((S5.out.below K).more K.size) (by omega)).mono fun _ _ ⟨A, c, h1, h2, h3⟩ => ⟨A, c, by rw [h1, HE2.out], (Seq.own h2).from_ (Nat.zero_le _), K.trans (h3.mono K.size)⟩
        have HO3 : Hid (∀ A c w', Seq w' 0 w'.heap.size A (flatS (live now us)) → Below w5.heap.size w5 w' → Calls Try.prog 13 #[.slice A m c, .int .u64 now] w' fun e w'' => e = .returned (.agg #[.int .i64 P0, .int .i64 P1, .int .i64 (m : Int)]) ∧ Below w5.heap.size w5 w'') := fun A c w' hq K =>
          (ofE now (live now us) A c m w' _ HE2.out HPP.out hq (by rw [HE2.out]; simp [maxLen]; omega)).mono fun _ _ ⟨h1, h2⟩ => ⟨h1, K.trans (h2.mono K.size)⟩
        clear HP HPT HPP HE2 S5 T5 HU
        have d2 : decide ((m : Int) ≤ (us.length : Int)) = true := by simp; omega
        have d3 : decide (m ≤ us.length) = true := by simp; omega
        by_cases hm : m = 0
        · obtain ⟨rfl, rfl⟩ := HZ.out hm
          subst hm
          have HK : Hid (∀ w', Below w5.heap.size w5 w' → (fun w' => (w'.cell? ⟨g, 0, none⟩ = some (.int .i64 0) ∧ w'.cell? ⟨g, 1, none⟩ = some (.int .i64 0) ∧ w'.cell? ⟨g, 2, none⟩ = some (.int .i64 0)) ∧ Below w5.heap.size w5 w') w') := fun w' K => ⟨⟨(K.cell (p := ⟨g, 0, none⟩) lg).trans k0, (K.cell (p := ⟨g, 1, none⟩) lg).trans k1, (K.cell (p := ⟨g, 2, none⟩) lg).trans k2⟩, K⟩
          have K0 : Below w5.heap.size w5 w5.drew := (Below.refl _ _).drew
          go_wp2_with fail
          refine wp_region_held_drew (S := (fun w' => (w'.cell? ⟨g, 0, none⟩ = some (.int .i64 0) ∧ w'.cell? ⟨g, 1, none⟩ = some (.int .i64 0) ∧ w'.cell? ⟨g, 2, none⟩ = some (.int .i64 0)) ∧ Below w5.heap.size w5 w')) (by kernel_rfl) (HK.out _ K0) (fun hS0 => ?_)
          refine wpAnyH_take (i := 0) (oi := { dst := some 36, op := .load 33 (.tmp 8), type := _, pos := _, after := _, guard := _ }) (v := (.agg #[.int .i64 0, .int .i64 0, .int .i64 0])) rfl (by kernel_rfl) (by kernel_rfl) (by kernel_rfl) (fun _ _ _ h => h) (Or.inl ⟨by rfl, ?_⟩) hS0 ?_
          · intro w' hSw
            go_simp
          try simp only [Act.put, List.setIfInBounds_toArray, List.set_cons_zero, List.set_cons_succ]
          refine wpAnyH_take (i := 1) (oi := { dst := some 37, op := .move (.tmp 6), type := _, pos := _, after := _, guard := _ }) (v := (.slice A1 us.length c1)) rfl (by kernel_rfl) (by kernel_rfl) (by kernel_rfl) (fun _ _ _ h => h) (Or.inl ⟨by rfl, ?_⟩) hS0 ?_
          · intro w' hSw
            go_simp
          try simp only [Act.put, List.setIfInBounds_toArray, List.set_cons_zero, List.set_cons_succ]
          refine wpAnyH_take (i := 2) (oi := { dst := some 38, op := .move (.tmp 1), type := _, pos := _, after := _, guard := _ }) (v := (.int .u64 now)) rfl (by kernel_rfl) (by kernel_rfl) (by kernel_rfl) (fun _ _ _ h => h) (Or.inl ⟨by rfl, ?_⟩) hS0 ?_
          · intro w' hSw
            go_simp
          try simp only [Act.put, List.setIfInBounds_toArray, List.set_cons_zero, List.set_cons_succ]
          refine wpAnyH_ready (rs := [3]) (by kernel_rfl) (by simp) ?_
          refine AllReadyH.cons (o := { dst := some 39, op := .call { callee := .value (.func 13), args := #[.tmp 37, .tmp 38], argTypes := #[22, 23] }, type := _, pos := _, after := _, guard := _ }) rfl (fun K hK => ?_) AllReadyH.nil
          go_simp
          refine Calls.mono (HO1.out _ K0) ?_
          rintro e w6 ⟨rfl, K1⟩
          go_wp2_with fail
          refine hK.out _ _ (HK.out _ K1) (fun hS1 => ?_)
          clear hK K
          try simp only [Act.put, List.setIfInBounds_toArray, List.set_cons_zero, List.set_cons_succ]
          clear hS0
          refine wpAnyH_take (i := 4) (oi := { dst := some 40, op := .binOp .eql 33 (.tmp 36) (.tmp 39) 33, type := _, pos := _, after := _, guard := _ }) (v := (.bool true)) rfl (by kernel_rfl) (by kernel_rfl) (by kernel_rfl) (fun _ _ _ h => h) (Or.inl ⟨by rfl, ?_⟩) hS1 ?_
          · intro w' hSw
            go_simp
          try simp only [Act.put, List.setIfInBounds_toArray, List.set_cons_zero, List.set_cons_succ]
          refine wpAnyH_take (i := 5) (oi := { dst := some 41, op := .move (.tmp 40), type := _, pos := _, after := _, guard := _ }) (v := (.bool true)) rfl (by kernel_rfl) (by kernel_rfl) (by kernel_rfl) (fun _ _ _ h => h) (Or.inl ⟨by rfl, ?_⟩) hS1 ?_
          · intro w' hSw
            go_simp
          try simp only [Act.put, List.setIfInBounds_toArray, List.set_cons_zero, List.set_cons_succ]
          refine wpAnyH_take (i := 6) (oi := { dst := some 42, op := .load 33 (.tmp 8), type := _, pos := _, after := _, guard := _ }) (v := (.agg #[.int .i64 0, .int .i64 0, .int .i64 0])) rfl (by kernel_rfl) (by kernel_rfl) (by kernel_rfl) (fun _ _ _ h => h) (Or.inl ⟨by rfl, ?_⟩) hS1 ?_
          · intro w' hSw
            go_simp
          try simp only [Act.put, List.setIfInBounds_toArray, List.set_cons_zero, List.set_cons_succ]
          refine wpAnyH_take (i := 7) (oi := { dst := some 43, op := .move (.tmp 5), type := _, pos := _, after := _, guard := _ }) (v := (.slice A5 us.length c5)) rfl (by kernel_rfl) (by kernel_rfl) (by kernel_rfl) (fun _ _ _ h => h) (Or.inl ⟨by rfl, ?_⟩) hS1 ?_
          · intro w' hSw
            go_simp
          try simp only [Act.put, List.setIfInBounds_toArray, List.set_cons_zero, List.set_cons_succ]
          refine wpAnyH_take (i := 8) (oi := { dst := some 44, op := .move (.tmp 1), type := _, pos := _, after := _, guard := _ }) (v := (.int .u64 now)) rfl (by kernel_rfl) (by kernel_rfl) (by kernel_rfl) (fun _ _ _ h => h) (Or.inl ⟨by rfl, ?_⟩) hS1 ?_
          · intro w' hSw
            go_simp
          try simp only [Act.put, List.setIfInBounds_toArray, List.set_cons_zero, List.set_cons_succ]
          refine wpAnyH_take (i := 10) (oi := { dst := some 46, op := .move (.tmp 1), type := _, pos := _, after := _, guard := _ }) (v := (.int .u64 now)) rfl (by kernel_rfl) (by kernel_rfl) (by kernel_rfl) (fun _ _ _ h => h) (Or.inl ⟨by rfl, ?_⟩) hS1 ?_
          · intro w' hSw
            go_simp
          try simp only [Act.put, List.setIfInBounds_toArray, List.set_cons_zero, List.set_cons_succ]
          refine wpAnyH_ready (rs := [9]) (by kernel_rfl) (by simp) ?_
          refine AllReadyH.cons (o := { dst := some 45, op := .call { callee := .value (.func 10), args := #[.tmp 43, .tmp 44], argTypes := #[22, 23] }, type := _, pos := _, after := _, guard := _ }) rfl (fun K hK => ?_) AllReadyH.nil
          go_simp
          refine Calls.mono (HO2.out _ K1) ?_
          rintro e w7 ⟨A7, c7, rfl, s7, K2⟩
          go_wp2_with fail
          refine hK.out _ _ (HK.out _ K2) (fun hS2 => ?_)
          clear hK K
          try simp only [Act.put, List.setIfInBounds_toArray, List.set_cons_zero, List.set_cons_succ]
          have S7 := Lib.hid s7
          clear s7 hS1
          refine wpAnyH_ready (rs := [11]) (by kernel_rfl) (by simp) ?_
          refine AllReadyH.cons (o := { dst := some 47, op := .call { callee := .value (.func 13), args := #[.tmp 45, .tmp 46], argTypes := #[22, 23] }, type := _, pos := _, after := _, guard := _ }) rfl (fun K hK => ?_) AllReadyH.nil
          go_simp
          refine Calls.mono (HO3.out A7 c7 _ S7.out K2) ?_
          rintro e w8 ⟨rfl, K3⟩
          go_wp2_with fail
          refine hK.out _ _ (HK.out _ K3) (fun hS3 => ?_)
          clear hK K
          try simp only [Act.put, List.setIfInBounds_toArray, List.set_cons_zero, List.set_cons_succ]
          clear S7 hS2
          refine wpAnyH_take (i := 12) (oi := { dst := some 48, op := .binOp .eql 33 (.tmp 42) (.tmp 47) 33, type := _, pos := _, after := _, guard := _ }) (v := (.bool true)) rfl (by kernel_rfl) (by kernel_rfl) (by kernel_rfl) (fun _ _ _ h => h) (Or.inl ⟨by rfl, ?_⟩) hS3 ?_
          · intro w' hSw
            go_simp
          try simp only [Act.put, List.setIfInBounds_toArray, List.set_cons_zero, List.set_cons_succ]
          refine wpAnyH_take (i := 13) (oi := { dst := some 49, op := .pick (.tmp 41) (.tmp 48) (.const (.bool false)), type := _, pos := _, after := _, guard := _ }) (v := (.bool true)) rfl (by kernel_rfl) (by kernel_rfl) (by kernel_rfl) (fun _ _ _ h => h) (Or.inl ⟨by rfl, ?_⟩) hS3 ?_
          · intro w' hSw
            go_simp
          try simp only [Act.put, List.setIfInBounds_toArray, List.set_cons_zero, List.set_cons_succ]
          refine wpAnyH_take (i := 14) (oi := { dst := some 50, op := .move (.tmp 49), type := _, pos := _, after := _, guard := _ }) (v := (.bool true)) rfl (by kernel_rfl) (by kernel_rfl) (by kernel_rfl) (fun _ _ _ h => h) (Or.inl ⟨by rfl, ?_⟩) hS3 ?_
          · intro w' hSw
            go_simp
          try simp only [Act.put, List.setIfInBounds_toArray, List.set_cons_zero, List.set_cons_succ]
          refine wpAnyH_take (i := 15) (oi := { dst := some 51, op := .fieldAddr 33 (.tmp 8) 2, type := _, pos := _, after := _, guard := _ }) (v := (.pointer (some ⟨g, 2, none⟩))) rfl (by kernel_rfl) (by kernel_rfl) (by kernel_rfl) (fun _ _ _ h => h) (Or.inl ⟨by rfl, ?_⟩) hS3 ?_
          · intro w' hSw
            go_simp
          try simp only [Act.put, List.setIfInBounds_toArray, List.set_cons_zero, List.set_cons_succ]
          refine wpAnyH_take (i := 16) (oi := { dst := some 52, op := .load 3 (.tmp 51), type := _, pos := _, after := _, guard := _ }) (v := (.int .i64 0)) rfl (by kernel_rfl) (by kernel_rfl) (by kernel_rfl) (fun _ _ _ h => h) (Or.inl ⟨by rfl, ?_⟩) hS3 ?_
          · intro w' hSw
            go_simp
          try simp only [Act.put, List.setIfInBounds_toArray, List.set_cons_zero, List.set_cons_succ]
          refine wpAnyH_take (i := 17) (oi := { dst := some 53, op := .move (.tmp 5), type := _, pos := _, after := _, guard := _ }) (v := (.slice A5 us.length c5)) rfl (by kernel_rfl) (by kernel_rfl) (by kernel_rfl) (fun _ _ _ h => h) (Or.inl ⟨by rfl, ?_⟩) hS3 ?_
          · intro w' hSw
            go_simp
          try simp only [Act.put, List.setIfInBounds_toArray, List.set_cons_zero, List.set_cons_succ]
          refine wpAnyH_ready (rs := [18]) (by kernel_rfl) (by simp) ?_
          refine AllReadyH.cons rfl (fun K hK => ?_) AllReadyH.nil
          go_simp
          refine hK.out _ _ hS3 (fun _ => ?_)
          clear hK K
          try simp only [Act.put, List.setIfInBounds_toArray, List.set_cons_zero, List.set_cons_succ]
          refine wpAnyH_take (i := 19) (oi := { dst := some 55, op := .binOp .leq 3 (.tmp 52) (.tmp 54) 3, type := _, pos := _, after := _, guard := _ }) (v := (.bool true)) rfl (by kernel_rfl) (by kernel_rfl) (by kernel_rfl) (fun _ _ _ h => h) (Or.inl ⟨by rfl, ?_⟩) hS3 ?_
          · intro w' hSw
            go_simp
          try simp only [Act.put, List.setIfInBounds_toArray, List.set_cons_zero, List.set_cons_succ]
          refine wpAnyH_take (i := 20) (oi := { dst := some 56, op := .pick (.tmp 50) (.tmp 55) (.const (.bool false)), type := _, pos := _, after := _, guard := _ }) (v := (.bool true)) rfl (by kernel_rfl) (by kernel_rfl) (by kernel_rfl) (fun _ _ _ h => h) (Or.inl ⟨by rfl, ?_⟩) hS3 ?_
          · intro w' hSw
            go_simp
          try simp only [Act.put, List.setIfInBounds_toArray, List.set_cons_zero, List.set_cons_succ]
          refine wpAnyH_take (i := 21) (oi := { dst := some 57, op := .move (.tmp 56), type := _, pos := _, after := _, guard := _ }) (v := (.bool true)) rfl (by kernel_rfl) (by kernel_rfl) (by kernel_rfl) (fun _ _ _ h => h) (Or.inl ⟨by rfl, ?_⟩) hS3 ?_
          · intro w' hSw
            go_simp
          try simp only [Act.put, List.setIfInBounds_toArray, List.set_cons_zero, List.set_cons_succ]
          refine wpAnyH_take (i := 22) (oi := { dst := some 58, op := .fieldAddr 33 (.tmp 8) 2, type := _, pos := _, after := _, guard := _ }) (v := (.pointer (some ⟨g, 2, none⟩))) rfl (by kernel_rfl) (by kernel_rfl) (by kernel_rfl) (fun _ _ _ h => h) (Or.inl ⟨by rfl, ?_⟩) hS3 ?_
          · intro w' hSw
            go_simp
          try simp only [Act.put, List.setIfInBounds_toArray, List.set_cons_zero, List.set_cons_succ]
          refine wpAnyH_take (i := 23) (oi := { dst := some 59, op := .load 3 (.tmp 58), type := _, pos := _, after := _, guard := _ }) (v := (.int .i64 0)) rfl (by kernel_rfl) (by kernel_rfl) (by kernel_rfl) (fun _ _ _ h => h) (Or.inl ⟨by rfl, ?_⟩) hS3 ?_
          · intro w' hSw
            go_simp
          try simp only [Act.put, List.setIfInBounds_toArray, List.set_cons_zero, List.set_cons_succ]
          refine wpAnyH_take (i := 24) (oi := { dst := some 60, op := .binOp .gtr 3 (.tmp 59) (.const (.int .i64 0)) 3, type := _, pos := _, after := _, guard := _ }) (v := (.bool false)) rfl (by kernel_rfl) (by kernel_rfl) (by kernel_rfl) (fun _ _ _ h => h) (Or.inl ⟨by rfl, ?_⟩) hS3 ?_
          · intro w' hSw
            go_simp
          try simp only [Act.put, List.setIfInBounds_toArray, List.set_cons_zero, List.set_cons_succ]
          refine wpAnyH_take (i := 25) (oi := { dst := some 61, op := .move (.tmp 60), type := _, pos := _, after := _, guard := _ }) (v := (.bool false)) rfl (by kernel_rfl) (by kernel_rfl) (by kernel_rfl) (fun _ _ _ h => h) (Or.inl ⟨by rfl, ?_⟩) hS3 ?_
          · intro w' hSw
            go_simp
          try simp only [Act.put, List.setIfInBounds_toArray, List.set_cons_zero, List.set_cons_succ]
          refine wpAnyH_take (i := 26) (oi := { dst := some 62, op := .load 33 (.tmp 8), type := _, pos := _, after := _, guard := _ }) (v := (.agg #[.int .i64 0, .int .i64 0, .int .i64 0])) rfl (by kernel_rfl) (by kernel_rfl) (by kernel_rfl) (fun _ _ _ h => h) (Or.inl ⟨by rfl, ?_⟩) hS3 ?_
          · intro w' hSw
            go_simp
          try simp only [Act.put, List.setIfInBounds_toArray, List.set_cons_zero, List.set_cons_succ]
          refine wpAnyH_take (i := 27) (oi := { dst := some 63, op := .build 33 #[], type := _, pos := _, after := _, guard := _ }) (v := (.agg #[.int .i64 0, .int .i64 0, .int .i64 0])) rfl (by kernel_rfl) (by kernel_rfl) (by kernel_rfl) (fun _ _ _ h => h) (Or.inl ⟨by rfl, ?_⟩) hS3 ?_
          · intro w' hSw
            go_simp
          try simp only [Act.put, List.setIfInBounds_toArray, List.set_cons_zero, List.set_cons_succ]
          refine wpAnyH_take (i := 28) (oi := { dst := some 64, op := .binOp .eql 33 (.tmp 62) (.tmp 63) 33, type := _, pos := _, after := _, guard := _ }) (v := (.bool true)) rfl (by kernel_rfl) (by kernel_rfl) (by kernel_rfl) (fun _ _ _ h => h) (Or.inl ⟨by rfl, ?_⟩) hS3 ?_
          · intro w' hSw
            go_simp
          try simp only [Act.put, List.setIfInBounds_toArray, List.set_cons_zero, List.set_cons_succ]
          refine wpAnyH_take (i := 29) (oi := { dst := some 65, op := .pick (.tmp 61) (.const (.bool true)) (.tmp 64), type := _, pos := _, after := _, guard := _ }) (v := (.bool true)) rfl (by kernel_rfl) (by kernel_rfl) (by kernel_rfl) (fun _ _ _ h => h) (Or.inl ⟨by rfl, ?_⟩) hS3 ?_
          · intro w' hSw
            go_simp
          try simp only [Act.put, List.setIfInBounds_toArray, List.set_cons_zero, List.set_cons_succ]
          refine wpAnyH_take (i := 30) (oi := { dst := some 66, op := .pick (.tmp 57) (.tmp 65) (.const (.bool false)), type := _, pos := _, after := _, guard := _ }) (v := (.bool true)) rfl (by kernel_rfl) (by kernel_rfl) (by kernel_rfl) (fun _ _ _ h => h) (Or.inl ⟨by rfl, ?_⟩) hS3 ?_
          · intro w' hSw
            go_simp
          try simp only [Act.put, List.setIfInBounds_toArray, List.set_cons_zero, List.set_cons_succ]
          refine wpAnyH_take (i := 31) (oi := { dst := some 4, op := .assign (.tmp 66), type := _, pos := _, after := _, guard := _ }) (v := (.bool true)) rfl (by kernel_rfl) (by kernel_rfl) (by kernel_rfl) (fun _ _ _ h => h) (Or.inl ⟨by rfl, ?_⟩) hS3 ?_
          · intro w' hSw
            go_simp
          try simp only [Act.put, List.setIfInBounds_toArray, List.set_cons_zero, List.set_cons_succ]
          refine wpAnyH_done (by kernel_rfl) ?_ _
          go_wp2_with fail
          go_ret
          exact ⟨rfl, B5.out.trans (K3.mono B5.out.size)⟩
        · have d4 : decide ((0 : Int) < (m : Int)) = true := by simp; omega
          have d5 : decide (0 < m) = true := by simp; omega
          have HK : Hid (∀ w', Below w5.heap.size w5 w' → (fun w' => (w'.cell? ⟨g, 0, none⟩ = some (.int .i64 P0) ∧ w'.cell? ⟨g, 1, none⟩ = some (.int .i64 P1) ∧ w'.cell? ⟨g, 2, none⟩ = some (.int .i64 (m : Int))) ∧ Below w5.heap.size w5 w') w') := fun w' K => ⟨⟨(K.cell (p := ⟨g, 0, none⟩) lg).trans k0, (K.cell (p := ⟨g, 1, none⟩) lg).trans k1, (K.cell (p := ⟨g, 2, none⟩) lg).trans k2⟩, K⟩
          have K0 : Below w5.heap.size w5 w5.drew := (Below.refl _ _).drew
          go_wp2_with fail
          refine wp_region_held_drew (S := (fun w' => (w'.cell? ⟨g, 0, none⟩ = some (.int .i64 P0) ∧ w'.cell? ⟨g, 1, none⟩ = some (.int .i64 P1) ∧ w'.cell? ⟨g, 2, none⟩ = some (.int .i64 (m : Int))) ∧ Below w5.heap.size w5 w')) (by kernel_rfl) (HK.out _ K0) (fun hS0 => ?_)
          refine wpAnyH_take (i := 0) (oi := { dst := some 36, op := .load 33 (.tmp 8), type := _, pos := _, after := _, guard := _ }) (v := (.agg #[.int .i64 P0, .int .i64 P1, .int .i64 (m : Int)])) rfl (by kernel_rfl) (by kernel_rfl) (by kernel_rfl) (fun _ _ _ h => h) (Or.inl ⟨by rfl, ?_⟩) hS0 ?_
          · intro w' hSw
            go_simp
          try simp only [Act.put, List.setIfInBounds_toArray, List.set_cons_zero, List.set_cons_succ]
          refine wpAnyH_take (i := 1) (oi := { dst := some 37, op := .move (.tmp 6), type := _, pos := _, after := _, guard := _ }) (v := (.slice A1 us.length c1)) rfl (by kernel_rfl) (by kernel_rfl) (by kernel_rfl) (fun _ _ _ h => h) (Or.inl ⟨by rfl, ?_⟩) hS0 ?_
          · intro w' hSw
            go_simp
          try simp only [Act.put, List.setIfInBounds_toArray, List.set_cons_zero, List.set_cons_succ]
          refine wpAnyH_take (i := 2) (oi := { dst := some 38, op := .move (.tmp 1), type := _, pos := _, after := _, guard := _ }) (v := (.int .u64 now)) rfl (by kernel_rfl) (by kernel_rfl) (by kernel_rfl) (fun _ _ _ h => h) (Or.inl ⟨by rfl, ?_⟩) hS0 ?_
          · intro w' hSw
            go_simp
          try simp only [Act.put, List.setIfInBounds_toArray, List.set_cons_zero, List.set_cons_succ]
          refine wpAnyH_ready (rs := [3]) (by kernel_rfl) (by simp) ?_
          refine AllReadyH.cons (o := { dst := some 39, op := .call { callee := .value (.func 13), args := #[.tmp 37, .tmp 38], argTypes := #[22, 23] }, type := _, pos := _, after := _, guard := _ }) rfl (fun K hK => ?_) AllReadyH.nil
          go_simp
          refine Calls.mono (HO1.out _ K0) ?_
          rintro e w6 ⟨rfl, K1⟩
          go_wp2_with fail
          refine hK.out _ _ (HK.out _ K1) (fun hS1 => ?_)
          clear hK K
          try simp only [Act.put, List.setIfInBounds_toArray, List.set_cons_zero, List.set_cons_succ]
          clear hS0
          refine wpAnyH_take (i := 4) (oi := { dst := some 40, op := .binOp .eql 33 (.tmp 36) (.tmp 39) 33, type := _, pos := _, after := _, guard := _ }) (v := (.bool true)) rfl (by kernel_rfl) (by kernel_rfl) (by kernel_rfl) (fun _ _ _ h => h) (Or.inl ⟨by rfl, ?_⟩) hS1 ?_
          · intro w' hSw
            go_simp
          try simp only [Act.put, List.setIfInBounds_toArray, List.set_cons_zero, List.set_cons_succ]
          refine wpAnyH_take (i := 5) (oi := { dst := some 41, op := .move (.tmp 40), type := _, pos := _, after := _, guard := _ }) (v := (.bool true)) rfl (by kernel_rfl) (by kernel_rfl) (by kernel_rfl) (fun _ _ _ h => h) (Or.inl ⟨by rfl, ?_⟩) hS1 ?_
          · intro w' hSw
            go_simp
          try simp only [Act.put, List.setIfInBounds_toArray, List.set_cons_zero, List.set_cons_succ]
          refine wpAnyH_take (i := 6) (oi := { dst := some 42, op := .load 33 (.tmp 8), type := _, pos := _, after := _, guard := _ }) (v := (.agg #[.int .i64 P0, .int .i64 P1, .int .i64 (m : Int)])) rfl (by kernel_rfl) (by kernel_rfl) (by kernel_rfl) (fun _ _ _ h => h) (Or.inl ⟨by rfl, ?_⟩) hS1 ?_
          · intro w' hSw
            go_simp
          try simp only [Act.put, List.setIfInBounds_toArray, List.set_cons_zero, List.set_cons_succ]
          refine wpAnyH_take (i := 7) (oi := { dst := some 43, op := .move (.tmp 5), type := _, pos := _, after := _, guard := _ }) (v := (.slice A5 us.length c5)) rfl (by kernel_rfl) (by kernel_rfl) (by kernel_rfl) (fun _ _ _ h => h) (Or.inl ⟨by rfl, ?_⟩) hS1 ?_
          · intro w' hSw
            go_simp
          try simp only [Act.put, List.setIfInBounds_toArray, List.set_cons_zero, List.set_cons_succ]
          refine wpAnyH_take (i := 8) (oi := { dst := some 44, op := .move (.tmp 1), type := _, pos := _, after := _, guard := _ }) (v := (.int .u64 now)) rfl (by kernel_rfl) (by kernel_rfl) (by kernel_rfl) (fun _ _ _ h => h) (Or.inl ⟨by rfl, ?_⟩) hS1 ?_
          · intro w' hSw
            go_simp
          try simp only [Act.put, List.setIfInBounds_toArray, List.set_cons_zero, List.set_cons_succ]
          refine wpAnyH_take (i := 10) (oi := { dst := some 46, op := .move (.tmp 1), type := _, pos := _, after := _, guard := _ }) (v := (.int .u64 now)) rfl (by kernel_rfl) (by kernel_rfl) (by kernel_rfl) (fun _ _ _ h => h) (Or.inl ⟨by rfl, ?_⟩) hS1 ?_
          · intro w' hSw
            go_simp
          try simp only [Act.put, List.setIfInBounds_toArray, List.set_cons_zero, List.set_cons_succ]
          refine wpAnyH_ready (rs := [9]) (by kernel_rfl) (by simp) ?_
          refine AllReadyH.cons (o := { dst := some 45, op := .call { callee := .value (.func 10), args := #[.tmp 43, .tmp 44], argTypes := #[22, 23] }, type := _, pos := _, after := _, guard := _ }) rfl (fun K hK => ?_) AllReadyH.nil
          go_simp
          refine Calls.mono (HO2.out _ K1) ?_
          rintro e w7 ⟨A7, c7, rfl, s7, K2⟩
          go_wp2_with fail
          refine hK.out _ _ (HK.out _ K2) (fun hS2 => ?_)
          clear hK K
          try simp only [Act.put, List.setIfInBounds_toArray, List.set_cons_zero, List.set_cons_succ]
          have S7 := Lib.hid s7
          clear s7 hS1
          refine wpAnyH_ready (rs := [11]) (by kernel_rfl) (by simp) ?_
          refine AllReadyH.cons (o := { dst := some 47, op := .call { callee := .value (.func 13), args := #[.tmp 45, .tmp 46], argTypes := #[22, 23] }, type := _, pos := _, after := _, guard := _ }) rfl (fun K hK => ?_) AllReadyH.nil
          go_simp
          refine Calls.mono (HO3.out A7 c7 _ S7.out K2) ?_
          rintro e w8 ⟨rfl, K3⟩
          go_wp2_with fail
          refine hK.out _ _ (HK.out _ K3) (fun hS3 => ?_)
          clear hK K
          try simp only [Act.put, List.setIfInBounds_toArray, List.set_cons_zero, List.set_cons_succ]
          clear S7 hS2
          refine wpAnyH_take (i := 12) (oi := { dst := some 48, op := .binOp .eql 33 (.tmp 42) (.tmp 47) 33, type := _, pos := _, after := _, guard := _ }) (v := (.bool true)) rfl (by kernel_rfl) (by kernel_rfl) (by kernel_rfl) (fun _ _ _ h => h) (Or.inl ⟨by rfl, ?_⟩) hS3 ?_
          · intro w' hSw
            go_simp
          try simp only [Act.put, List.setIfInBounds_toArray, List.set_cons_zero, List.set_cons_succ]
          refine wpAnyH_take (i := 13) (oi := { dst := some 49, op := .pick (.tmp 41) (.tmp 48) (.const (.bool false)), type := _, pos := _, after := _, guard := _ }) (v := (.bool true)) rfl (by kernel_rfl) (by kernel_rfl) (by kernel_rfl) (fun _ _ _ h => h) (Or.inl ⟨by rfl, ?_⟩) hS3 ?_
          · intro w' hSw
            go_simp
          try simp only [Act.put, List.setIfInBounds_toArray, List.set_cons_zero, List.set_cons_succ]
          refine wpAnyH_take (i := 14) (oi := { dst := some 50, op := .move (.tmp 49), type := _, pos := _, after := _, guard := _ }) (v := (.bool true)) rfl (by kernel_rfl) (by kernel_rfl) (by kernel_rfl) (fun _ _ _ h => h) (Or.inl ⟨by rfl, ?_⟩) hS3 ?_
          · intro w' hSw
            go_simp
          try simp only [Act.put, List.setIfInBounds_toArray, List.set_cons_zero, List.set_cons_succ]
          refine wpAnyH_take (i := 15) (oi := { dst := some 51, op := .fieldAddr 33 (.tmp 8) 2, type := _, pos := _, after := _, guard := _ }) (v := (.pointer (some ⟨g, 2, none⟩))) rfl (by kernel_rfl) (by kernel_rfl) (by kernel_rfl) (fun _ _ _ h => h) (Or.inl ⟨by rfl, ?_⟩) hS3 ?_
          · intro w' hSw
            go_simp
          try simp only [Act.put, List.setIfInBounds_toArray, List.set_cons_zero, List.set_cons_succ]
          refine wpAnyH_take (i := 16) (oi := { dst := some 52, op := .load 3 (.tmp 51), type := _, pos := _, after := _, guard := _ }) (v := (.int .i64 (m : Int))) rfl (by kernel_rfl) (by kernel_rfl) (by kernel_rfl) (fun _ _ _ h => h) (Or.inl ⟨by rfl, ?_⟩) hS3 ?_
          · intro w' hSw
            go_simp
          try simp only [Act.put, List.setIfInBounds_toArray, List.set_cons_zero, List.set_cons_succ]
          refine wpAnyH_take (i := 17) (oi := { dst := some 53, op := .move (.tmp 5), type := _, pos := _, after := _, guard := _ }) (v := (.slice A5 us.length c5)) rfl (by kernel_rfl) (by kernel_rfl) (by kernel_rfl) (fun _ _ _ h => h) (Or.inl ⟨by rfl, ?_⟩) hS3 ?_
          · intro w' hSw
            go_simp
          try simp only [Act.put, List.setIfInBounds_toArray, List.set_cons_zero, List.set_cons_succ]
          refine wpAnyH_ready (rs := [18]) (by kernel_rfl) (by simp) ?_
          refine AllReadyH.cons rfl (fun K hK => ?_) AllReadyH.nil
          go_simp
          refine hK.out _ _ hS3 (fun _ => ?_)
          clear hK K
          try simp only [Act.put, List.setIfInBounds_toArray, List.set_cons_zero, List.set_cons_succ]
          refine wpAnyH_take (i := 19) (oi := { dst := some 55, op := .binOp .leq 3 (.tmp 52) (.tmp 54) 3, type := _, pos := _, after := _, guard := _ }) (v := (.bool true)) rfl (by kernel_rfl) (by kernel_rfl) (by kernel_rfl) (fun _ _ _ h => h) (Or.inl ⟨by rfl, ?_⟩) hS3 ?_
          · intro w' hSw
            go_simp
          try simp only [Act.put, List.setIfInBounds_toArray, List.set_cons_zero, List.set_cons_succ]
          refine wpAnyH_take (i := 20) (oi := { dst := some 56, op := .pick (.tmp 50) (.tmp 55) (.const (.bool false)), type := _, pos := _, after := _, guard := _ }) (v := (.bool true)) rfl (by kernel_rfl) (by kernel_rfl) (by kernel_rfl) (fun _ _ _ h => h) (Or.inl ⟨by rfl, ?_⟩) hS3 ?_
          · intro w' hSw
            go_simp
          try simp only [Act.put, List.setIfInBounds_toArray, List.set_cons_zero, List.set_cons_succ]
          refine wpAnyH_take (i := 21) (oi := { dst := some 57, op := .move (.tmp 56), type := _, pos := _, after := _, guard := _ }) (v := (.bool true)) rfl (by kernel_rfl) (by kernel_rfl) (by kernel_rfl) (fun _ _ _ h => h) (Or.inl ⟨by rfl, ?_⟩) hS3 ?_
          · intro w' hSw
            go_simp
          try simp only [Act.put, List.setIfInBounds_toArray, List.set_cons_zero, List.set_cons_succ]
          refine wpAnyH_take (i := 22) (oi := { dst := some 58, op := .fieldAddr 33 (.tmp 8) 2, type := _, pos := _, after := _, guard := _ }) (v := (.pointer (some ⟨g, 2, none⟩))) rfl (by kernel_rfl) (by kernel_rfl) (by kernel_rfl) (fun _ _ _ h => h) (Or.inl ⟨by rfl, ?_⟩) hS3 ?_
          · intro w' hSw
            go_simp
          try simp only [Act.put, List.setIfInBounds_toArray, List.set_cons_zero, List.set_cons_succ]
          refine wpAnyH_take (i := 23) (oi := { dst := some 59, op := .load 3 (.tmp 58), type := _, pos := _, after := _, guard := _ }) (v := (.int .i64 (m : Int))) rfl (by kernel_rfl) (by kernel_rfl) (by kernel_rfl) (fun _ _ _ h => h) (Or.inl ⟨by rfl, ?_⟩) hS3 ?_
          · intro w' hSw
            go_simp
          try simp only [Act.put, List.setIfInBounds_toArray, List.set_cons_zero, List.set_cons_succ]
          refine wpAnyH_take (i := 24) (oi := { dst := some 60, op := .binOp .gtr 3 (.tmp 59) (.const (.int .i64 0)) 3, type := _, pos := _, after := _, guard := _ }) (v := (.bool true)) rfl (by kernel_rfl) (by kernel_rfl) (by kernel_rfl) (fun _ _ _ h => h) (Or.inl ⟨by rfl, ?_⟩) hS3 ?_
          · intro w' hSw
            go_simp
          try simp only [Act.put, List.setIfInBounds_toArray, List.set_cons_zero, List.set_cons_succ]
          refine wpAnyH_take (i := 25) (oi := { dst := some 61, op := .move (.tmp 60), type := _, pos := _, after := _, guard := _ }) (v := (.bool true)) rfl (by kernel_rfl) (by kernel_rfl) (by kernel_rfl) (fun _ _ _ h => h) (Or.inl ⟨by rfl, ?_⟩) hS3 ?_
          · intro w' hSw
            go_simp
          try simp only [Act.put, List.setIfInBounds_toArray, List.set_cons_zero, List.set_cons_succ]
          refine wpAnyH_take (i := 26) (oi := { dst := some 62, op := .load 33 (.tmp 8), type := _, pos := _, after := _, guard := _ }) (v := undef) rfl (by kernel_rfl) (by kernel_rfl) (by kernel_rfl) (fun _ _ _ h => h) (Or.inr ⟨by rfl, rfl⟩) hS3 ?_
          try simp only [Act.put, List.setIfInBounds_toArray, List.set_cons_zero, List.set_cons_succ]
          refine wpAnyH_take (i := 27) (oi := { dst := some 63, op := .build 33 #[], type := _, pos := _, after := _, guard := _ }) (v := undef) rfl (by kernel_rfl) (by kernel_rfl) (by kernel_rfl) (fun _ _ _ h => h) (Or.inr ⟨by rfl, rfl⟩) hS3 ?_
          try simp only [Act.put, List.setIfInBounds_toArray, List.set_cons_zero, List.set_cons_succ]
          refine wpAnyH_take (i := 28) (oi := { dst := some 64, op := .binOp .eql 33 (.tmp 62) (.tmp 63) 33, type := _, pos := _, after := _, guard := _ }) (v := undef) rfl (by kernel_rfl) (by kernel_rfl) (by kernel_rfl) (fun _ _ _ h => h) (Or.inr ⟨by rfl, rfl⟩) hS3 ?_
          try simp only [Act.put, List.setIfInBounds_toArray, List.set_cons_zero, List.set_cons_succ]
          refine wpAnyH_take (i := 29) (oi := { dst := some 65, op := .pick (.tmp 61) (.const (.bool true)) (.tmp 64), type := _, pos := _, after := _, guard := _ }) (v := (.bool true)) rfl (by kernel_rfl) (by kernel_rfl) (by kernel_rfl) (fun _ _ _ h => h) (Or.inl ⟨by rfl, ?_⟩) hS3 ?_
          · intro w' hSw
            go_simp
          try simp only [Act.put, List.setIfInBounds_toArray, List.set_cons_zero, List.set_cons_succ]
          refine wpAnyH_take (i := 30) (oi := { dst := some 66, op := .pick (.tmp 57) (.tmp 65) (.const (.bool false)), type := _, pos := _, after := _, guard := _ }) (v := (.bool true)) rfl (by kernel_rfl) (by kernel_rfl) (by kernel_rfl) (fun _ _ _ h => h) (Or.inl ⟨by rfl, ?_⟩) hS3 ?_
          · intro w' hSw
            go_simp
          try simp only [Act.put, List.setIfInBounds_toArray, List.set_cons_zero, List.set_cons_succ]
          refine wpAnyH_take (i := 31) (oi := { dst := some 4, op := .assign (.tmp 66), type := _, pos := _, after := _, guard := _ }) (v := (.bool true)) rfl (by kernel_rfl) (by kernel_rfl) (by kernel_rfl) (fun _ _ _ h => h) (Or.inl ⟨by rfl, ?_⟩) hS3 ?_
          · intro w' hSw
            go_simp
          try simp only [Act.put, List.setIfInBounds_toArray, List.set_cons_zero, List.set_cons_succ]
          refine wpAnyH_done (by kernel_rfl) ?_ _
          go_wp2_with fail
          go_ret
          exact ⟨rfl, B5.out.trans (K3.mono B5.out.size)⟩
      · have e1 : ((j + 1 : Nat) : Int) - 1 = (j : Int) := by omega
        rw [e1]
        have hlt : j < us.length := by omega
        obtain ⟨p, off, rfl, _, hp, q0, q1, q2, q3⟩ := (S2.out.below HB.out).ses hlt
        have HT : Hid ((us.drop j).reverse = (us.drop (j + 1)).reverse ++ [us[j]]) := by show _ = _; rw [List.drop_eq_getElem_cons hlt, List.reverse_cons]
        have lb : p < wr.heap.size := by omega
        generalize (us.drop (j + 1)).reverse = os at *
        generalize us[j] = q at *
        obtain ⟨x0, x1, x2, x3⟩ := q
        simp only at q0 q1 q2 q3 HT
        go_wp2_with (at_builtin; refine wpList_append_own _ rfl _ _ 22 rfl (w2.heap.size) 30 i0 (.agg #[.int .i64 0, .int .i64 0, .int .i64 0, .int .u64 0]) 4 32 HE.out.ut HE.out.info HE.out.zero HE.out.sz HE.out.by_ HE.out.cells HE.out.pos _ _ _ rfl (HO.out.alloc _) ⟨wr.heap.size, 0, none⟩ 1 1 (Law.cellsS (x0, x1, x2, x3)) rfl rfl (Law.new_fourAt _ (x0, x1, x2, x3) _ (by simp)) (Law.four_one _) (by unfold maxLen; omega) (by omega) (by simp; omega) ?_)
        intro v' w4 hown2 hgrow _
        have B4 := Lib.hid ((HB.out.alloc sb (.cells #[.int .i64 x0, .int .i64 x1, .int .i64 x2, .int .u64 x3] 30)).grown hgrow (by simp; omega) (fun g hg => (HO.out.lt g hg).1))
        have HO2 : Hid (Row w4 w2.heap.size v' (os ++ [(x0, x1, x2, x3)])) := by
          show World.ownsRow _ _ _ _ _ _ _
          rw [flatS_snoc]
          simpa using hown2
        obtain ⟨g', cap', rfl⟩ := ownsRow_succ hown2
        clear hown2 hgrow
        go_wp2_with fail
        go_roundw
        case rel => exact ⟨j, by omega, by go_num, by rw [HT.out]; exact HO2.out, B4.out⟩
        case measure => simp [intOf]

set_option maxRecDepth 100000 in
theorem lifted (os : Os) (started : os.Started) (H : Type) (enc : TypeId × Value → H) :
    ReturnsInHanded {} Try.checked os 7 .any (Rows.aggrTurnedSpec.pre6 enc Try.prog Try.f7 Rows.aggrTurnedRow.domain false) (Rows.aggrTurnedSpec.post enc Try.prog Try.f7 false true false false) := by
  refine returnsInHanded_of_change (C := Try.checked) own started (by kernel_rfl) Try.func7
    (ChangeSpec.witness6 (enc := enc) (C := Try.checked) false ⟨#[], #[.slice none 0 0, .int .u64 0], []⟩ 8 (by kernel_rfl) (by kernel_rfl) (by kernel_rfl) (by kernel_rfl)) ?_
  intro W base args ds gs before hval0 hW hcnd _
  have hval : ∀ (j : Nat) t v, Try.f7.params[j]? = some t → args[j]? = some v → Value.okWide Try.prog W .any base t v := hval0
  have hW' := hW
  obtain ⟨p, q, hA0, hV, rfl, hfz, hnd⟩ := hW
  have hA : DataW.TrodAll enc Try.prog W 0 (fun _ => true) true Try.f7.params.toList args.toList ds p := hA0
  rw [Try.params7] at hA hval
  obtain ⟨v0, vs0, d0, ds0, p0, q0, hargs, rfl, rfl, h0, r0⟩ := trodAll_cons hA
  obtain ⟨v1, vs1, d1, ds1, p1, q1, rfl, rfl, rfl, h1, r1⟩ := trodAll_cons r0
  obtain ⟨rfl, rfl, rfl⟩ := trodAll_nil r1
  obtain rfl : args = #[v0, v1] := by cases args; simp_all
  obtain ⟨A, c, l, rfl, hs, hl⟩ := Law.open_sess Try.underlying22 Try.underlying30 (by kernel_rfl) rfl rfl rfl rfl (by kernel_rfl) (by kernel_rfl) (by kernel_rfl) (by kernel_rfl) (by kernel_rfl) (by kernel_rfl) (by kernel_rfl) (by kernel_rfl) (hval 0 22 v0 rfl rfl) h0
  obtain ⟨a1, rfl, rfl, rfl, w1⟩ := open_int Try.underlying23 (hval 1 23 v1 rfl rfl) h1
  refine (walk l A c a1 W hs hl).mono fun e W' ⟨he, bel⟩ => ?_
  subst he
  exact ⟨_, rfl, Law.post_law laidOut (by kernel_rfl) (by kernel_rfl) Try.underlying4 rfl (fun ds h => by match ds, h with | [_, _], _ => rfl) hW' bel⟩

theorem proved : Rows.AggrTurnedSaid :=
  OpenClaim.holds_of_wide 7 Try.f7 rfl rfl rfl rfl rfl rfl rfl ⟨rfl, rfl, rfl, rfl, rfl⟩ rfl rfl rfl rfl rfl (by kernel_rfl) Try.func7 (by kernel_rfl)
    (of_decide_eq_true (by kernel_rfl)) (by unfold Func.isWrapper; rw [if_neg (by decide +kernel)]; exact ⟨rfl, rfl⟩)
    (fun os started H enc _ => lifted os started H enc)
#print axioms proved
end Go.Proofs.Ytmcbjfmlncellaa.aggrTurned
