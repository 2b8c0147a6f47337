/-
  What the reference's (layer 9) Same comes to at lists that are the same.
-/
import Derived.Test.YtdkjcheannehhaaFeed05
import Derived.Deep.RegionHeld3
namespace Go.Proofs.Ytdkjcheannehhaa
open Go.RowKit Go.Shelf
attribute [local go_sem] Oper.semAt_some
namespace Feed
open Go.Law
set_option maxRecDepth 100000 in
set_option maxHeartbeats 4000000 in
theorem refSame (zs : List Ev) (A B : Option Addr) (c d : Nat) (w : World) (ha : Seq w 0 w.heap.size A (flatE zs)) (hb : Seq w 0 w.heap.size B (flatE zs)) (hl : zs.length ≤ 1000) :
    Calls Try.prog 15 #[.slice A zs.length c, .slice B zs.length d] w fun e w' => e = .returned (.bool true) ∧ Below w.heap.size w w' := by
  have HA := Lib.hid ha
  have HB := Lib.hid hb
  clear ha hb
  have d0 : ((zs.length : Int) != (zs.length : Int)) = false := by simp
  go_enter Try.func15, Try.ntmps15
  go_wp2_with fail
  go_loopw [5] (fun i wr => ∃ j : Nat, j ≤ zs.length ∧ i = .int .i64 j ∧ Below w.heap.size w wr) (fun i _ => zs.length - (intOf i).toNat)
  case atStart => exact ⟨0, Nat.zero_le _, rfl, Below.refl _ _⟩
  case round =>
    obtain ⟨j, hj, rfl, hB⟩ := hrel
    have HD := Lib.hid hB
    have sz := hB.size
    clear hB
    by_cases hlt : j < zs.length
    · have d1 : decide ((j : Int) < (zs.length : Int)) = true := by simp; omega
      obtain ⟨ga, oa, rfl, _, hga, p0, p1, p2, p3, p4, p5, p6, p7⟩ := (HA.out.below HD.out).ev hlt
      obtain ⟨gb, ob, rfl, _, hgb, q0, q1, q2, q3, q4, q5, q6, q7⟩ := (HB.out.below HD.out).ev hlt
      generalize zs[j] = x at *
      obtain ⟨x0, x1, x2, x3, x4, x5, x6, x7⟩ := x
      simp only at p0 p1 p2 p3 p4 p5 p6 p7 q0 q1 q2 q3 q4 q5 q6 q7
      go_wp2_with fail
      go_quiet (fail)
      go_wp2_with fail
      go_roundw
      case rel => exact ⟨j + 1, by omega, by go_num, Law.below_drewN HD.out nq⟩
      case measure => simp [intOf]; omega
    · have d1 : decide ((j : Int) < (zs.length : Int)) = false := by simp; omega
      go_wp2_with fail
      go_ret
      exact ⟨rfl, HD.out⟩
end Feed
end Go.Proofs.Ytdkjcheannehhaa
