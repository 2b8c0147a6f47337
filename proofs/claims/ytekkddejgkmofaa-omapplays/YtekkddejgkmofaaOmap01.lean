/-
  The statements' 'awake' and 'long' of layer 4.
-/
import Derived.Test.YtekkddejgkmofaaActs
import Derived.Test.YtekkddejgkmofaaOmapSM
import Derived.Test.YtekkddejgkmofaaOmapIM
namespace Go.Proofs.Ytekkddejgkmofaa
open Go.RowKit
namespace Omap
theorem ret_bool {a b : Bool} (h : a = b) : Ending.returned (.bool a) = .returned (.bool b) := by rw [h]

set_option maxRecDepth 100000 in
set_option maxHeartbeats 800000 in
theorem awake (w : World) : Calls Try.prog 8 #[] w fun e w' => e = .returned (.bool true) ∧ Below w.heap.size w w' := by
  go_enter Try.func8, Try.ntmps8
  go_wp2_with fail
  have B0 := (Below.refl w.heap.size w).alloc (Nat.le_refl _) (.cells #[.pointer none] 61)
  have I0 : Law.Is (w.alloc (.cells #[.pointer none] 61)) w.heap.size 61 #[.pointer none] := Law.Is.new _ _ _ rfl
  have c0 : (w.alloc (.cells #[.pointer none] 61)).cell? ⟨w.heap.size, 0, none⟩ = some (.pointer none) := I0.cell' rfl
  have l0 := I0.lt
  generalize w.alloc (.cells #[.pointer none] 61) = w0 at *
  refine (OmapI.withM 2 _ (p := none) (xs := []) (B := 0) .nil (Nat.zero_le _) Law.Rises.nil (by simp)).mono ?_
  rintro e w1 ⟨p1, rfl, t1, b1⟩
  have T1 := Lib.hid t1
  have I1 := I0.below b1 l0
  have B1 := B0.trans (b1.mono B0.size)
  clear t1 b1 c0 I0 B0 l0
  go_wp2_with fail
  refine (OmapI.withM 1 _ T1.out (Nat.le_refl _) (Law.putK_rises OmapI.lt OmapI.tri Law.Rises.nil) (by simp [Law.putK])).mono ?_
  rintro e w2 ⟨p2, rfl, t2, b2⟩
  have HE : Hid (∃ x y : ByteArray, Law.putK OmapI.lt (1 : Int) ⟨#[97]⟩ (Law.putK OmapI.lt (2 : Int) ⟨#[98]⟩ []) = [(1, x), (2, y)]) := ⟨_, _, rfl⟩
  obtain ⟨x, y, hxy⟩ := HE.out
  rw [hxy] at t2
  have T2 := Lib.hid t2
  have I2 := I1.below b2 I1.lt
  have B2 := B1.trans (b2.mono B1.size)
  clear t2 b2 I1 B1 T1 HE hxy
  have c2 : w2.cell? ⟨w.heap.size, 0, none⟩ = some (.pointer none) := I2.cell' rfl
  have l2 := I2.lt
  have HB := Lib.hid B2
  have HI := Lib.hid I2
  clear I2 B2
  go_wp2_with fail
  refine (OmapI.keys (T2.out.under ((Below.refl _ w2).alloc (Nat.le_refl _) _)) (by simp) (by simp)).mono ?_
  rintro e w3 ⟨A, c, rfl, hc, s3, b3⟩
  obtain ⟨b, off, rfl, _, hb, q0⟩ := s3.at (i := 0) (by simp)
  obtain ⟨b', off', e', _, hb', q1⟩ := s3.at (i := 1) (by simp)
  obtain ⟨rfl, rfl⟩ : b = b' ∧ off = off' := by injection e' with e'; injection e' with e1 e2; exact ⟨e1, e2⟩
  simp only [Nat.add_zero, List.map_cons, List.getElem_cons_zero, List.getElem_cons_succ] at q0 q1
  have B3 := Lib.hid ((HB.out.alloc HB.out.size _).trans (b3.mono (by simp; have := HB.out.size; omega)))
  have c3 : w3.cell? ⟨w.heap.size, 0, none⟩ = some (.pointer none) := (b3.cell (p := ⟨w.heap.size, 0, none⟩) (by simp; omega)).trans ((World.cell?_alloc_lt _ _ _ (by simpa using l2)).trans c2)
  have l3 := B3.out.size
  clear s3 b3 e' hb' c2 l2 HB HI T2
  go_wp2_with fail
  refine (OmapI.len (p := none) (xs := []) (B := 0) .nil (Nat.zero_le _)).mono ?_
  rintro e w4 ⟨rfl, rfl⟩
  go_wp2_with fail
  go_ret
  exact ⟨rfl, B3.out.alloc l3 _⟩

/-- behind 'long' -/
def Long (w : World) (l : List (Bool × ByteArray × Int)) (e : Ending) (w' : World) : Prop := ∃ c : Bool, e = .returned (.bool c) ∧ (c = false → l.length ≤ 200) ∧ w = w'

set_option maxHeartbeats 800000 in
theorem long (l : List (Bool × ByteArray × Int)) (A : Option Addr) (c : Nat) (w : World) (hs : Law.Acts w w.heap.size A l) (hl : l.length ≤ maxLen) (hz : ∀ q ∈ l, q.2.1.size ≤ maxLen) :
    Calls Try.prog 9 #[.slice A l.length c] w (Long w l) := by
  have HS := Lib.hid hs
  have hl' : l.length ≤ 9223372036854775807 := by unfold maxLen at hl; omega
  unfold maxLen at hz
  have HZ := Lib.hid hz
  clear hs hl hz
  go_enter Try.func9, Try.ntmps9
  go_wp2_with fail
  go_loop [3, 4] (fun n i => ∃ m k : Nat, n = .int .i64 m ∧ i = .int .i64 k ∧ k ≤ l.length ∧ l.length ≤ m ∧ m ≤ 9223372036854775807) (fun _ i => l.length - (intOf i).toNat)
  case atStart => exact ⟨l.length, 0, rfl, rfl, Nat.zero_le _, Nat.le_refl _, hl'⟩
  case round =>
    obtain ⟨m, k, rfl, rfl, hk, hm, hm'⟩ := hrel
    by_cases hlt : k < l.length
    · by_cases h2 : m ≤ 200
      · obtain ⟨b, off, rfl, _, _, q1, _⟩ := HS.out.at hlt
        have hu := HZ.out _ (List.getElem_mem hlt)
        generalize l[k].2.1 = s at *
        go_wp2_with fail
        all_goals
          go_round
          case rel => exact ⟨m + min 201 (s.size / 8), k + 1, by simp; omega, by go_num, by omega, by omega, by omega⟩
          case measure => simp [intOf]; omega
      · have d2 : decide ((m : Int) ≤ 200) = false := by simp; omega
        go_wp2_with fail
        go_ret
        exact ⟨_, rfl, fun h => by simp at h; omega, rfl⟩
    · go_wp2_with fail
      go_ret
      exact ⟨_, rfl, fun h => by simp at h; omega, rfl⟩
end Omap
end Go.Proofs.Ytekkddejgkmofaa
