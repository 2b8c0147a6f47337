/-
  Are two rows of events the same? (Layer 9's reference, in both directions.)
-/
import Derived.Test.YtdfonlbbohnfhaaDoorOpApL
import Derived.Test.YtdfonlbbohnfhaaDoorOpAwk
import Derived.Test.YtdfonlbbohnfhaaDoorMoves
namespace Go.Proofs.YtdfonlbbohnfhaaDoor
open Go.RowKit Go.Shelf
attribute [local go_sem] Oper.semAt_some
namespace Opx
open Go.Law
theorem lst_ne {a b : ByteArray} (h : ¬ a = b) : (a.toList == b.toList) = false := by
  rw [ByteArray.toList_eq, ByteArray.toList_eq, beq_eq_false_iff_ne]
  exact fun e => h (LB_inj e)
set_option maxRecDepth 100000 in
set_option maxHeartbeats 4000000 in
theorem same9 (xs ys : List Ev) (A B : Option Addr) (c d : Nat) (w : World) (ha : Seq w 0 w.heap.size A (flatE xs)) (hb : Seq w 0 w.heap.size B (flatE ys)) (hl : xs.length ≤ 1000) (hl2 : ys.length ≤ 1000) {r : Bool} (hr : decide (xs = ys) = r) :
    Calls Tryd.prog 21 #[.slice A xs.length c, .slice B ys.length d] w fun e w' => e = .returned (.bool r) ∧ Below w.heap.size w w' := by
  have HA := Lib.hid ha
  have HB := Lib.hid hb
  have HR := Lib.hid hr
  clear ha hb hr
  by_cases hlen : xs.length = ys.length
  · have d0 : ((xs.length : Int) != (ys.length : Int)) = false := by simp [hlen]
    go_enter Tryd.func21, Tryd.ntmps21
    go_wp2_with fail
    go_loopw [5] (fun i wr => ∃ j : Nat, j ≤ xs.length ∧ i = .int .i64 j ∧ xs.take j = ys.take j ∧ Below w.heap.size w wr) (fun i _ => xs.length - (intOf i).toNat)
    case atStart => exact ⟨0, Nat.zero_le _, rfl, rfl, Below.refl _ _⟩
    case round =>
      obtain ⟨j, hj, rfl, ht, hB⟩ := hrel
      have HD := Lib.hid hB
      have HT := Lib.hid ht
      have sz := hB.size
      clear hB ht
      by_cases hlt : j < xs.length
      · have d1 : decide ((j : Int) < (xs.length : Int)) = true := by simp; omega
        have hlt2 : j < ys.length := by omega
        have HTX := Lib.hid (List.take_succ_eq_append_getElem hlt)
        have HTY := Lib.hid (List.take_succ_eq_append_getElem hlt2)
        obtain ⟨ga, oa, rfl, _, hga, p0, p1, p2, p3, p4, p5, p6, p7⟩ := (HA.out.below HD.out).ev hlt
        obtain ⟨gb, ob, rfl, _, hgb, q0, q1, q2, q3, q4, q5, q6, q7⟩ := (HB.out.below HD.out).ev hlt2
        generalize hx : xs[j] = x at *
        generalize hy : ys[j] = y at *
        obtain ⟨x0, x1, x2, x3, x4, x5, x6, x7⟩ := x
        obtain ⟨y0, y1, y2, y3, y4, y5, y6, y7⟩ := y
        simp only at p0 p1 p2 p3 p4 p5 p6 p7 q0 q1 q2 q3 q4 q5 q6 q7
        by_cases he : (⟨x0, x1, x2, x3, x4, x5, x6, x7⟩ : Ev) = ⟨y0, y1, y2, y3, y4, y5, y6, y7⟩
        · injection he with h0 h1 h2 h3 h4 h5 h6 h7
          subst h0 h1 h2 h3 h4 h5 h6 h7
          go_wp2_with fail
          go_quiet (fail)
          go_wp2_with fail
          go_roundw
          case rel => exact ⟨j + 1, by omega, by go_num, by rw [HTX.out, HTY.out, HT.out], Law.below_drewN HD.out nq⟩
          case measure => simp [intOf]; omega
        · have HN : Hid (decide (xs = ys) = false) := Lib.hid (decide_eq_false fun h => he (by subst h; rw [← hx, ← hy]))
          clear hx hy HTX HTY HT
          have HE := Lib.hid he
          clear he
          by_cases e0 : x0 = y0
          rotate_left
          · have n0 : (x0.toList == y0.toList) = false := lst_ne e0
            have m0 : decide (x0 = y0) = false := decide_eq_false e0
            go_wp2_with fail
            go_quiet (fail)
            go_wp2_with fail
            go_ret
            exact ⟨by rw [← HR.out, HN.out]; rfl, Law.below_drewN HD.out nq⟩
          subst e0
          by_cases e1 : x1 = y1
          rotate_left
          · have n1 : (x1 == y1) = false := by simp [e1]
            have m1 : decide (x1 = y1) = false := decide_eq_false e1
            go_wp2_with fail
            go_quiet (fail)
            go_wp2_with fail
            go_ret
            exact ⟨by rw [← HR.out, HN.out]; rfl, Law.below_drewN HD.out nq⟩
          subst e1
          by_cases e2 : x2 = y2
          rotate_left
          · have n2 : (x2 == y2) = false := by simp [e2]
            have m2 : decide (x2 = y2) = false := decide_eq_false e2
            go_wp2_with fail
            go_quiet (fail)
            go_wp2_with fail
            go_ret
            exact ⟨by rw [← HR.out, HN.out]; rfl, Law.below_drewN HD.out nq⟩
          subst e2
          by_cases e3 : x3 = y3
          rotate_left
          · have n3 : (x3 == y3) = false := by simp [e3]
            have m3 : decide (x3 = y3) = false := decide_eq_false e3
            go_wp2_with fail
            go_quiet (fail)
            go_wp2_with fail
            go_ret
            exact ⟨by rw [← HR.out, HN.out]; rfl, Law.below_drewN HD.out nq⟩
          subst e3
          by_cases e4 : x4 = y4
          rotate_left
          · have n4 : (x4 == y4) = false := by simp [e4]
            have m4 : decide (x4 = y4) = false := decide_eq_false e4
            go_wp2_with fail
            go_quiet (fail)
            go_wp2_with fail
            go_ret
            exact ⟨by rw [← HR.out, HN.out]; rfl, Law.below_drewN HD.out nq⟩
          subst e4
          by_cases e5 : x5 = y5
          rotate_left
          · have n5 : (x5 == y5) = false := by simp [e5]
            have m5 : decide (x5 = y5) = false := decide_eq_false e5
            go_wp2_with fail
            go_quiet (fail)
            go_wp2_with fail
            go_ret
            exact ⟨by rw [← HR.out, HN.out]; rfl, Law.below_drewN HD.out nq⟩
          subst e5
          by_cases e6 : x6 = y6
          rotate_left
          · have n6 : (x6 == y6) = false := by simp [e6]
            have m6 : decide (x6 = y6) = false := decide_eq_false e6
            go_wp2_with fail
            go_quiet (fail)
            go_wp2_with fail
            go_ret
            exact ⟨by rw [← HR.out, HN.out]; rfl, Law.below_drewN HD.out nq⟩
          subst e6
          by_cases e7 : x7 = y7
          rotate_left
          · have n7 : (x7 == y7) = false := by simp [e7]
            have m7 : decide (x7 = y7) = false := decide_eq_false e7
            go_wp2_with fail
            go_quiet (fail)
            go_wp2_with fail
            go_ret
            exact ⟨by rw [← HR.out, HN.out]; rfl, Law.below_drewN HD.out nq⟩
          subst e7
          exact absurd rfl HE.out
      · have d1 : decide ((j : Int) < (xs.length : Int)) = false := by simp; omega
        have HN : Hid (decide (xs = ys) = true) := Lib.hid (decide_eq_true (by rw [List.take_of_length_le (by omega), List.take_of_length_le (by omega)] at HT; exact HT.out))
        go_wp2_with fail
        go_ret
        exact ⟨by rw [← HR.out, HN.out]; rfl, HD.out⟩
  · have d0 : ((xs.length : Int) != (ys.length : Int)) = true := by simp; omega
    have HN : Hid (decide (xs = ys) = false) := Lib.hid (decide_eq_false fun h => hlen (by rw [h]))
    go_enter Tryd.func21, Tryd.ntmps21
    go_wp2_with fail
    go_ret
    exact ⟨by rw [← HR.out, HN.out]; rfl, Below.refl _ _⟩
end Opx
end Go.Proofs.YtdfonlbbohnfhaaDoor
