/-
  What changes of layer 8's statements comes to, at two lists that are alike.
-/
import Derived.Test.YtjjemdmbhgmiiaaBook11
namespace Go.Proofs.Ytjjemdmbhgmiiaa
open Go.RowKit
namespace Bk
open Go.Law Go.Proofs.Ytjjemdmbhgmiiaa.OmapB Door

set_option maxRecDepth 100000 in
set_option maxHeartbeats 4000000 in
theorem changes_ (cs : List Ch) (A B : Option Addr) (c d : Nat) (w : World) (hs : Seq w 0 w.heap.size A (flatC cs)) (ht : Seq w 0 w.heap.size B (flatC cs)) (hl : cs.length ≤ 1000) :
    Calls Try.prog 18 #[.slice A cs.length c, .slice B cs.length d] w fun e w' => e = .returned (.bool true) ∧ Below w.heap.size w w' := by
  have HS := Lib.hid hs
  have HT := Lib.hid ht
  clear hs ht
  go_enter Try.func18, Try.ntmps18
  go_wp2_with fail
  go_loopw [5] (fun i wr => ∃ j : Nat, j ≤ cs.length ∧ i = .int .i64 j ∧ Drawn w wr) (fun i _ => cs.length - (intOf i).toNat)
  case atStart => exact ⟨0, Nat.zero_le _, rfl, Drawn.refl _⟩
  case round =>
    obtain ⟨j, hj, rfl, hD⟩ := hrel
    have HD := Lib.hid hD
    by_cases hlt : j < cs.length
    · obtain ⟨b, off, rfl, _, hb, q0, q1, q2, q3, q4, q5, q6⟩ := (hD.seq HS.out).ch hlt
      obtain ⟨b', off', rfl, _, hb', p0, p1, p2, p3, p4, p5, p6⟩ := (hD.seq HT.out).ch hlt
      clear hD
      generalize cs[j] = q at *
      obtain ⟨u, ⟨o0, o1, o2⟩, ⟨v0, v1, v2⟩⟩ := q
      simp only at q0 q1 q2 q3 q4 q5 q6 p0 p1 p2 p3 p4 p5 p6
      go_wp2_with fail
      go_quiet (fail)
      go_wp2_with fail
      go_roundw
      case rel => exact ⟨j + 1, by omega, by go_num, HD.out.drewN _⟩
      case measure => simp [intOf]; omega
    · clear hD
      go_wp2_with fail
      go_ret
      exact ⟨rfl, HD.out.below (Below.refl _ _)⟩
end Bk
end Go.Proofs.Ytjjemdmbhgmiiaa
