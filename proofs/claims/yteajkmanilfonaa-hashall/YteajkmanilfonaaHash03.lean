/-
  What Stripes, and the reference's, come to: a new list of the stripes that are met, rising.
-/
import Derived.Test.YteajkmanilfonaaHash02
namespace Go.Proofs.Yteajkmanilfonaa
open Go.RowKit
namespace Hash
open Door

/-- the stripes below k that are met -/
def upTo (us : List ByteArray) (n : Int) (k : Nat) : List Int := ((List.range k).filter (met us n)).map Int.ofNat
theorem upTo_yes {us : List ByteArray} {n : Int} {k : Nat} (h : met us n k = true) : upTo us n (k + 1) = upTo us n k ++ [(k : Int)] := by simp [upTo, List.range_succ, h]
theorem upTo_no {us : List ByteArray} {n : Int} {k : Nat} (h : met us n k = false) : upTo us n (k + 1) = upTo us n k := by simp [upTo, List.range_succ, h]
theorem upTo_len (us : List ByteArray) (n : Int) (k : Nat) : (upTo us n k).length ≤ k := by
  have := List.length_filter_le (met us n) (List.range k)
  simp at this
  simpa [upTo] using this
abbrev stripes (us : List ByteArray) (n : Int) : List Int := upTo us n 8

/-- a new list of numbers -/
def Ints (w : World) (zs : List Int) (e : Ending) (w' : World) : Prop :=
  ∃ A c, e = .returned (.slice A zs.length c) ∧ Law.Seq w' w.heap.size w'.heap.size A (zs.map (.int .i64)) ∧ Below w.heap.size w w'
theorem ints_of {w w' : World} {v : Value} {zs : List Int} (h : w'.ownsRow w.heap.size 3 1 v zs.length (zs.map (.int .i64))) (hb : Below w.heap.size w w') : Ints w zs (.returned v) w' := by
  rcases h.2 with ⟨rfl, h0⟩ | ⟨g, cap, cur, rfl, _⟩
  · have : zs = [] := List.eq_nil_of_length_eq_zero h0
    subst this
    exact ⟨none, 0, rfl, Law.Seq.nil, hb⟩
  · exact ⟨_, _, rfl, Law.Seq.own h, hb⟩
theorem infoInt : (Try.prog.info? 3).map (fun i => (i.zero, i.size, i.bytes)) = some (some (.int .i64 0), 1, 8) := by kernel_rfl

/-- one number more in a list of the call's own -/
theorem own_next {w wr w1 : World} {v v' : Value} {zs : List Int} {z : Int} {o : Obj}
    (hown' : w1.ownsRow w.heap.size 3 1 v' (zs.length + 1) (zs.map (.int .i64) ++ [.int .i64 z])) (hgrow : (wr.alloc o).grownBy w1 v.ownBlock) (hv : ∀ k, v.ownBlock = some k → w.heap.size ≤ k) (hb : Below w.heap.size w wr) :
    w1.ownsRow w.heap.size 3 1 v' (zs ++ [z]).length ((zs ++ [z]).map (.int .i64)) ∧ Below w.heap.size w w1 := by
  refine ⟨by simpa using hown', (hb.alloc hb.size _).grown hgrow (by have := hb.size; simp; omega) hv⟩

set_option maxHeartbeats 1600000 in
theorem hstripes (us : List ByteArray) (A : Option Addr) (c : Nat) (n : Int) (hn : n ≤ 9223372036854775807) (w : World) (hs : Law.Seq w 0 w.heap.size A (us.map .string)) (hl : us.length ≤ maxLen) (hz : ∀ u ∈ us, u.size ≤ maxLen) :
    Calls Try.prog 16 #[.slice A us.length c, .int .i64 n] w (Ints w (stripes us n)) := by
  obtain ⟨i0, hi, hz0, hz1, hz2⟩ := info_parts infoInt
  have HI := Lib.hid hi
  have HZ0 := Lib.hid hz0
  have HZ1 := Lib.hid hz1
  have HZ2 := Lib.hid hz2
  clear hi hz0 hz1 hz2
  go_enter Try.func16, Try.ntmps16
  go_wp2_with fail
  refine (meet us A c n hn _ hs hl hz).mono ?_
  rintro e w1 ⟨rfl, hB⟩
  have hB1 := Lib.hid hB
  clear hs hl hz hB
  unfold marks
  go_wp2_with fail
  go_loopw [6, 11] (fun v i wr => ∃ k : Nat, k ≤ 8 ∧ i = .int .i64 k ∧ wr.ownsRow w.heap.size 3 1 v (upTo us n k).length ((upTo us n k).map (.int .i64)) ∧ Law.Is wr w1.heap.size 39 (marks us n) ∧ Below w.heap.size w wr) (fun _ i _ => 8 - (intOf i).toNat)
  case atStart => exact ⟨0, Nat.zero_le _, rfl, World.ownsRow_nil _ _ _ _, Law.Is.new _ _ _ rfl, hB1.out.alloc hB1.out.size _⟩
  case round =>
    obtain ⟨k, hk, rfl, hown, hI, hB⟩ := hrel
    have hwl := upTo_len us n k
    by_cases hlt : k < 8
    · have c0 := hI.cell' (marks_at us n hlt)
      have l0 := hI.lt
      cases hm : met us n k
      · have H := Lib.hid (upTo_no hm)
        rw [hm] at c0
        clear hm
        go_wp2_with fail
        go_roundw
        case rel => exact ⟨k + 1, by omega, by go_num, by rw [H.out]; exact hown, hI, hB⟩
        case measure => simp [intOf]; omega
      · have H := Lib.hid (upTo_yes hm)
        rw [hm] at c0
        clear hm
        go_wp2_with (at_builtin; refine wpList_append_own _ rfl _ _ 30 rfl w.heap.size 3 i0 (.int .i64 0) 1 8 Try.underlying30 HI.out HZ0.out HZ1.out HZ2.out rfl (by decide) _ _ _ rfl (hown.alloc _) ⟨wr.heap.size, 0, none⟩ 1 1 [.int .i64 (k : Int)] rfl rfl (Law.new_one _ _ _) (Law.one_int _ _) (by unfold maxLen; omega) (by omega) (by have := hB.size; simp; omega) ?_)
        intro v' w2 hown' hgrow _
        have R := own_next hown' hgrow (fun g hg => (hown.lt g hg).1) hB
        clear hown'
        go_wp2_with fail
        go_roundw
        case rel => exact ⟨k + 1, by omega, by go_num, by rw [H.out]; exact R.1, (hI.alloc _).grown hgrow (Law.own_ne hown hI (by decide)), R.2⟩
        case measure => simp [intOf]; omega
    · obtain rfl : k = 8 := by omega
      go_wp2_with fail
      go_ret
      exact ints_of hown hB

theorem met_next (us : List ByteArray) (n : Int) (i k : Nat) (h : k < us.length) : met (us.take (k + 1)) n i = (met (us.take k) n i || stripe us[k].data.toList n == i) := by rw [List.take_succ_eq_append_getElem h, met_snoc]

set_option maxHeartbeats 1600000 in
theorem refStripes (us : List ByteArray) (A : Option Addr) (c : Nat) (n : Int) (hn : n ≤ 9223372036854775807) (w : World) (hs : Law.Seq w 0 w.heap.size A (us.map .string)) (hl : us.length ≤ maxLen) (hz : ∀ u ∈ us, u.size ≤ maxLen) :
    Calls Try.prog 17 #[.slice A us.length c, .int .i64 n] w (Ints w (stripes us n)) := by
  obtain ⟨i0, hi, hz0, hz1, hz2⟩ := info_parts infoInt
  have HI := Lib.hid hi
  have HZ0 := Lib.hid hz0
  have HZ1 := Lib.hid hz1
  have HZ2 := Lib.hid hz2
  have HZ := Lib.hid hz
  have HS := Lib.hid hs
  unfold maxLen at hl
  clear hi hz0 hz1 hz2 hz hs
  go_enter Try.func17, Try.ntmps17
  go_wp2_with fail
  go_loopw [5, 6] (fun v i wr => ∃ k : Nat, k ≤ 8 ∧ i = .int .i64 k ∧ wr.ownsRow w.heap.size 3 1 v (upTo us n k).length ((upTo us n k).map (.int .i64)) ∧ Below w.heap.size w wr) (fun _ i _ => 8 - (intOf i).toNat)
  case atStart => exact ⟨0, Nat.zero_le _, rfl, World.ownsRow_nil _ _ _ _, Below.refl _ _⟩
  case round =>
    obtain ⟨k, hk, rfl, hown, hB⟩ := hrel
    have hwl := upTo_len us n k
    by_cases hlt : k < 8
    · have hd : decide ((k : Int) < 8) = true := by simp; omega
      go_wp2_with fail
      go_loop [7, 8] (fun m i => ∃ j : Nat, j ≤ us.length ∧ i = .int .i64 j ∧ m = .bool (met (us.take j) n k)) (fun _ i => us.length - (intOf i).toNat)
      case atStart => exact ⟨0, Nat.zero_le _, rfl, by simp [met]⟩
      case round =>
        obtain ⟨j, hj, rfl, rfl⟩ := hrel
        by_cases hjl : j < us.length
        · have hmn := Lib.hid (met_next us n k j hjl)
          cases hm : met (us.take j) n k
          · obtain ⟨b, off, rfl, _, hb, hc⟩ := HS.out.str hjl
            have hc' := (hB.cell (p := ⟨b, off + j, none⟩) hb).trans hc
            have hu := HZ.out _ (List.getElem_mem hjl)
            rw [hm] at hmn
            clear hm hc
            generalize us[j] = u at *
            go_wp2_with fail
            refine (refStripe _ _ _ hu hn).mono ?_
            rintro e w' ⟨rfl, rfl⟩
            go_wp2_with fail
            go_round
            case rel => exact ⟨j + 1, by omega, by go_num, by rw [hmn.out, Law.beq_cast]; rfl⟩
            case measure => simp [intOf]; omega
          · rw [hm] at hmn
            clear hm
            go_wp2_with fail
            go_round
            case rel => exact ⟨j + 1, by omega, by go_num, by rw [hmn.out]; simp⟩
            case measure => simp [intOf]; omega
        · rw [List.take_of_length_le (by omega)]
          cases hm : met us n k
          · have H := Lib.hid (upTo_no hm)
            clear hm
            go_wp2_with fail
            go_roundw
            case rel => exact ⟨k + 1, by omega, by go_num, by rw [H.out]; exact hown, hB⟩
            case measure => simp [intOf]; omega
          · have H := Lib.hid (upTo_yes hm)
            clear hm
            go_wp2_with (at_builtin; refine wpList_append_own _ rfl _ _ 30 rfl w.heap.size 3 i0 (.int .i64 0) 1 8 Try.underlying30 HI.out HZ0.out HZ1.out HZ2.out rfl (by decide) _ _ _ rfl (hown.alloc _) ⟨wr.heap.size, 0, none⟩ 1 1 [.int .i64 (k : Int)] rfl rfl (Law.new_one _ _ _) (Law.one_int _ _) (by unfold maxLen; omega) (by omega) (by have := hB.size; simp; omega) ?_)
            intro v' w2 hown' hgrow _
            have R := own_next hown' hgrow (fun g hg => (hown.lt g hg).1) hB
            clear hown'
            go_wp2_with fail
            go_roundw
            case rel => exact ⟨k + 1, by omega, by go_num, by rw [H.out]; exact R.1, R.2⟩
            case measure => simp [intOf]; omega
    · obtain rfl : k = 8 := by omega
      go_wp2_with fail
      go_ret
      exact ints_of hown hB
end Hash
end Go.Proofs.Yteajkmanilfonaa
