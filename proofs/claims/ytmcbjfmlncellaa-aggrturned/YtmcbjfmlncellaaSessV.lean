/-
  What the reference's Sorted (layer 6) comes to.
-/
import Derived.Test.YtmcbjfmlncellaaSessS
namespace Go.Proofs.Ytmcbjfmlncellaa
open Go.RowKit
namespace Sess
open Go.Law
set_option maxRecDepth 100000 in
set_option maxHeartbeats 1600000 in
theorem refSorted (zs : List Sn) (A : Option Addr) (c : Nat) (w : World) (hs : Seq w 0 w.heap.size A (flatS zs)) (hl : zs.length ≤ 800) :
    Calls Try.prog 18 #[.slice A zs.length c] w fun e w' => ∃ us : List Sn, Up us ∧ us.length ≤ zs.length ∧ Listed w w.heap.size us e w' := by
  have HS := Lib.hid hs
  clear hs
  go_enter Try.func18, Try.ntmps18
  go_wp2_with fail
  go_loopw [3, 4] (fun v i wr => ∃ (j : Nat) (us : List Sn), j ≤ zs.length ∧ i = .int .i64 j ∧ us.length ≤ j ∧ Up us ∧ Row wr w.heap.size v us ∧ Below w.heap.size w wr) (fun _ i _ => zs.length - (intOf i).toNat)
  case atStart => exact ⟨0, [], Nat.zero_le _, rfl, Nat.zero_le _, Rises.nil, World.ownsRow_nil _ _ _ _, Below.refl _ _⟩
  case round =>
    obtain ⟨j, us, hj, rfl, hul, hup, hown, hB⟩ := hrel
    obtain ⟨A1, c1, rfl, _⟩ := own_shape hown
    have HO := Lib.hid hown
    have HB := Lib.hid hB
    have HU := Lib.hid hup
    have sb := hB.size
    have HS1 := Lib.hid ((Seq.own hown).from_ (Nat.zero_le _))
    clear hown hB hup
    by_cases hlt : j < zs.length
    · obtain ⟨b, off, rfl, _, hb, q0, q1, q2, q3⟩ := (HS.out.below HB.out).ses hlt
      have lb : b < wr.heap.size := by omega
      generalize hq : zs[j] = q at *
      obtain ⟨y0, y1, y2, y3⟩ := q
      simp only at q0 q1 q2 q3
      go_wp2_with fail
      refine (refHas y0 us A1 c1 _ HS1.out (by omega)).mono ?_
      rintro e w1 ⟨rfl, rfl⟩
      cases hh : hasS y0 us with
      | true =>
        go_wp2_with fail
        go_roundw
        case rel => exact ⟨j + 1, us, by omega, by go_num, by omega, HU.out, HO.out, HB.out⟩
        case measure => simp [intOf]; omega
      | false =>
        have HH : Hid (hasS ((y0, y1, y2, y3) : Sn).1 us = false) := hh
        have HL := Lib.hid (put_le (y0, y1, y2, y3) us)
        clear hh
        go_wp2_with fail
        refine (refSetPut (y0, y1, y2, y3) ((us.length : Int) + 1) us A1 c1 _ HS1.out (by omega) HU.out false HH.out (.inr (by omega))).mono ?_
        rintro e w2 ⟨A2, c2, rfl, r2, b2⟩
        have R2 := Lib.hid (own_base r2 sb)
        have B2 := Lib.hid (HB.out.trans (b2.mono sb))
        have HU2 := Lib.hid (put_up (y0, y1, y2, y3) HU.out)
        clear r2 b2
        generalize put (y0, y1, y2, y3) us = vs at *
        go_wp2_with fail
        go_roundw
        case rel => exact ⟨j + 1, vs, by omega, by go_num, by have := HL.out; omega, HU2.out, R2.out, B2.out⟩
        case measure => simp [intOf]; omega
    · go_wp2_with fail
      go_ret
      exact ⟨us, HU.out, by omega, A1, c1, rfl, HO.out, HB.out⟩
end Sess
end Go.Proofs.Ytmcbjfmlncellaa
