/-
  The example, and Short (layer 11's statements).
-/
import Derived.Test.YtdfonlbbohnfhaaDoorOpLine
namespace Go.Proofs.YtdfonlbbohnfhaaDoor
open Go.RowKit Go.Shelf Go.Lib
attribute [local go_sem] Oper.semAt_some
namespace Opx
open Go.Law
set_option maxRecDepth 100000 in
set_option maxHeartbeats 2000000 in
theorem short (q : OpW) {w : World} (h : q.In w) {r : Bool} (hr : shortB q = r) : Calls Tryd.prog 5 #[.agg q.box] w fun e w' => e = .returned (.bool r) ∧ Below w.heap.size w w' := by
  obtain ⟨kind, user, id, st, pr, ttl, A, c, us⟩ := q
  subst hr
  have bb := (Below.refl w.heap.size w).alloc (Nat.le_refl _) (.cells #[.int .i64 kind, .string user, .int .i64 id, .int .i64 st, .int .i64 pr, .int .u64 ttl, .slice A us.length c] 25)
  have IN1 := Lib.hid (h.below bb)
  have HX := Lib.hid (Is.new w 25 #[.int .i64 kind, .string user, .int .i64 id, .int .i64 st, .int .i64 pr, .int .u64 ttl, .slice A us.length c] rfl)
  have HB := Lib.hid bb
  have hl := h.len
  have hu := h.user
  simp only at hl hu
  unfold maxLen at hl hu
  clear h bb
  show Calls _ _ #[.agg #[.int .i64 kind, .string user, .int .i64 id, .int .i64 st, .int .i64 pr, .int .u64 ttl, .slice A us.length c]] _ _
  by_cases h0 : user.size ≤ 40
  · have d0 : decide ((40 : Int) < (user.size : Int)) = false := by simp; omega
    by_cases h1 : us.length ≤ 20
    · have d1 : decide ((20 : Int) < (us.length : Int)) = false := by simp; omega
      have HE : Hid (shortB ⟨kind, user, id, st, pr, ttl, A, c, us⟩ = us.all fun u => decide (u.size ≤ 40)) := by show _ = _; unfold shortB; simp [h0, h1]
      rw [HE.out]
      go_enter Tryd.func5, Tryd.ntmps5
      go_wp2_with fail
      generalize (w.alloc (.cells #[.int .i64 kind, .string user, .int .i64 id, .int .i64 st, .int .i64 pr, .int .u64 ttl, .slice A us.length c] 25)) = w1 at *
      have HX1 := Lib.hid (HX.out.cell' (i := 6) rfl)
      have lx := HX.out.lt
      have c6 : w1.cell? ⟨w.heap.size, 6, none⟩ = some (.slice A us.length c) := HX1.out
      go_loop [3] (fun i => ∃ j : Nat, j ≤ us.length ∧ i = .int .i64 j ∧ (us.take j).all (fun u => decide (u.size ≤ 40)) = true) (fun i => us.length - (RowKit.intOf i).toNat)
      case atStart => exact ⟨0, Nat.zero_le _, rfl, by simp⟩
      case round =>
        obtain ⟨j, hj, rfl, ha⟩ := hrel
        have HA := Lib.hid ha
        clear ha
        by_cases hlt : j < us.length
        · obtain ⟨b, off, rfl, _, hb, c0⟩ := IN1.out.us.str hlt
          have e1 : decide ((j : Int) < (us.length : Int)) = true := by simp; omega
          have HT : Hid ((us.take (j + 1)).all (fun u => decide (u.size ≤ 40)) = ((us.take j).all (fun u => decide (u.size ≤ 40)) && decide (us[j].size ≤ 40))) := by show _ = _; rw [List.take_succ_eq_append_getElem hlt, List.all_append]; simp
          have HM := Lib.hid (List.getElem_mem hlt)
          have hz := IN1.out.size _ HM.out
          unfold maxLen at hz
          simp only at c0 hz hb
          generalize us[j] = u at *
          by_cases hu2 : u.size ≤ 40
          · have d2 : decide ((40 : Int) < (u.size : Int)) = false := by simp; omega
            go_wp2_with fail
            go_round
            case rel => exact ⟨j + 1, by omega, by go_num, by rw [HT.out, HA.out]; simpa using hu2⟩
            case measure => simp [RowKit.intOf]; omega
          · have d2 : decide ((40 : Int) < (u.size : Int)) = true := by simp; omega
            have HE2 : Hid ((us.all fun u => decide (u.size ≤ 40)) = false) := by show _ = _; rw [List.all_eq_false]; exact ⟨u, HM.out, by simpa using hu2⟩
            go_wp2_with fail
            go_ret
            exact ⟨by rw [HE2.out]; rfl, HB.out⟩
        · have e1 : us.take j = us := List.take_of_length_le (by omega)
          have e2 : decide ((j : Int) < (us.length : Int)) = false := by simp; omega
          rw [e1] at HA
          go_wp2_with fail
          go_ret
          exact ⟨by rw [HA.out]; rfl, HB.out⟩
    · have d1 : decide ((20 : Int) < (us.length : Int)) = true := by simp; omega
      have HE : Hid (shortB ⟨kind, user, id, st, pr, ttl, A, c, us⟩ = false) := by show _ = _; unfold shortB; simp; omega
      rw [HE.out]
      go_enter Tryd.func5, Tryd.ntmps5
      go_wp2_with fail
      go_ret
      exact ⟨rfl, HB.out⟩
  · have d0 : decide ((40 : Int) < (user.size : Int)) = true := by simp; omega
    have HE : Hid (shortB ⟨kind, user, id, st, pr, ttl, A, c, us⟩ = false) := by show _ = _; unfold shortB; simp; omega
    rw [HE.out]
    go_enter Tryd.func5, Tryd.ntmps5
    go_wp2_with fail
    go_ret
    exact ⟨rfl, HB.out⟩

def exOp : OpW := ⟨1, ⟨#[97, 110, 110]⟩, 1, 2, 0, 5, none, 0, []⟩
theorem dec_small (u : Nat) (h : u < 10) : Lib.decDigits u = [UInt8.ofNat (48 + u)] := by rw [Lib.decDigits, dif_pos h]
theorem int_small (u : Nat) (h : u < 10) : intB (u : Int) = ⟨#[UInt8.ofNat (48 + u)]⟩ := by
  unfold intB Lib.itoa
  rw [if_neg (by omega), Int.toNat_natCast, dec_small u h]
theorem ex_quote : quoteB ⟨#[97, 110, 110]⟩ = ⟨#[34, 97, 110, 110, 34]⟩ := by decide +kernel
theorem ex_line : lineB exOp = ⟨#[115, 101, 116, 32, 34, 97, 110, 110, 34, 32, 49, 32, 50, 32, 48, 32, 53]⟩ := by
  unfold lineB exOp
  simp only [if_true]
  rw [ex_quote, show (1 : Int) = ((1 : Nat) : Int) from rfl, show (2 : Int) = ((2 : Nat) : Int) from rfl, show (0 : Int) = ((0 : Nat) : Int) from rfl, int_small 1 (by decide), int_small 2 (by decide), int_small 0 (by decide)]
  unfold decB
  rw [show ((5 : Int).toNat) = 5 from rfl, dec_small 5 (by decide)]
  decide +kernel
set_option maxRecDepth 100000 in
theorem awake (w : World) (hT : Tabs w) : Calls Tryd.prog 4 #[] w fun e w' => e = .returned (.bool true) ∧ Below w.heap.size w w' := by
  have HL := Lib.hid (line exOp (by decide) w ⟨fun h => absurd rfl h, Nat.zero_le _, Nat.le_refl _, fun _ h => (by cases h), by decide, by decide, by decide, by decide, by decide, by decide⟩ hT)
  rw [ex_line] at HL
  go_enter Tryd.func4, Tryd.ntmps4
  go_wp2_with fail
  refine HL.out.mono ?_
  rintro e w' ⟨rfl, hb⟩
  go_wp2_with fail
  go_ret
  exact ⟨rfl, hb⟩
end Opx
end Go.Proofs.YtdfonlbbohnfhaaDoor
