/-
  The statements' 'awake' and the reference's 'Same' of layer 3.
-/
import Derived.Test.YtcpaenoennlboaaRingID
namespace Go.Proofs.Ytcpaenoennlboaa
open Go.RowKit
namespace Ring
theorem ret_bool {a b : Bool} (h : a = b) : Ending.returned (.bool a) = .returned (.bool b) := by rw [h]

set_option maxRecDepth 100000 in
set_option maxHeartbeats 800000 in
theorem awake (w : World) : Calls Try.prog 8 #[] w fun e w' => e = .returned (.bool true) ∧ Below w.heap.size w w' := by
  go_enter Try.func8, Try.ntmps8
  go_wp2_with fail
  refine (RingI.new 1 w).mono ?_
  rintro e w1 ⟨rfl, rfl⟩
  have B0 := Lib.hid ((Below.refl w.heap.size w).alloc (Nat.le_refl _) (.cells #[.int .i64 ((1 : Int).toNat : Int), .slice none 0 0, .bool false] 51))
  have R0 := Lib.hid (Law.Ring.new 51 3 w w.heap.size 1 (Nat.le_refl _) rfl)
  have l0 : w.heap.size < (w.alloc (.cells #[.int .i64 ((1 : Int).toNat : Int), .slice none 0 0, .bool false] 51)).heap.size := by simp
  have R0' : Hid (RingI.At (w.alloc (.cells #[.int .i64 ((1 : Int).toNat : Int), .slice none 0 0, .bool false] 51)) w.heap.size (fun k => k = w.heap.size) w.heap.size 1 [] false) := R0.out
  clear R0
  generalize w.alloc (.cells #[.int .i64 ((1 : Int).toNat : Int), .slice none 0 0, .bool false] 51) = w0 at *
  go_wp2_with fail
  refine (RingI.put 5 [] false _ w.heap.size _ w.heap.size 1 R0'.out (by omega) (by simp)).mono ?_
  rintro e w1 ⟨rfl, S1, h1, t1, s1⟩
  have B1 := Lib.hid (t1.below B0.out (fun k hk => by omega) (by omega))
  have H1 : Hid (RingI.At w1 w.heap.size S1 w.heap.size 1 [5] false) := by show RingI.At _ _ _ _ _ _ _; simpa [Law.putL] using h1
  have l1 := H1.out.lt
  clear h1 t1 s1 B0 R0'
  go_wp2_with fail
  refine (RingI.put 6 [5] false _ w.heap.size _ w.heap.size 1 H1.out (by omega) (by simp)).mono ?_
  rintro e w2 ⟨rfl, S2, h2, t2, s2⟩
  have B2 := Lib.hid (t2.below B1.out (fun k hk => (H1.out.ok k hk).1) (by omega))
  have H2 : Hid (RingI.At w2 w.heap.size S2 w.heap.size 1 [5] true) := by show RingI.At _ _ _ _ _ _ _; simpa [Law.putL] using h2
  have l2 := H2.out.lt
  clear h2 t2 s2 B1 H1
  go_wp2_with fail
  refine (RingI.lost H2.out).mono ?_
  rintro e w' ⟨rfl, rfl⟩
  go_wp2_with fail
  refine (RingI.drain H2.out (by simp)).mono ?_
  rintro e w3 ⟨A, c, rfl, hc, h3, r3, t3⟩
  have B3 := Lib.hid (t3.below B2.out (fun k hk => by omega) (by omega))
  have H3 := Lib.hid r3
  obtain ⟨b, off, rfl, _, hb, q⟩ := h3.int (i := 0) (by simp)
  simp only [Nat.add_zero, List.getElem_cons_zero] at q
  clear h3 r3 t3
  go_wp2_with fail
  refine (RingI.len H3.out).mono ?_
  rintro e w' ⟨rfl, rfl⟩
  go_wp2_with fail
  go_ret
  exact ⟨rfl, B3.out⟩

set_option maxHeartbeats 800000 in
theorem same (xs ys : List Int) (A B : Option Addr) (c d : Nat) (w : World) (hs : Law.Seq w 0 w.heap.size A (xs.map (.int .i64))) (ht : Law.Seq w 0 w.heap.size B (ys.map (.int .i64))) (hx : xs.length ≤ 1000) (hy : ys.length ≤ 1000) :
    Calls Try.prog 11 #[.slice A xs.length c, .slice B ys.length d] w fun e w' => e = .returned (.bool (decide (xs = ys))) ∧ Law.Drawn w w' := by
  have HS := Lib.hid hs
  have HT := Lib.hid ht
  clear hs ht
  by_cases hl : xs.length = ys.length
  · have HL := Lib.hid hl
    rw [← hl] at hy
    rw [← hl]
    clear hl
    go_enter Try.func11, Try.ntmps11
    go_wp2_with fail
    go_loopw [5] (fun i wr => ∃ k : Nat, k ≤ xs.length ∧ i = .int .i64 k ∧ xs.take k = ys.take k ∧ Law.Drawn w wr) (fun i _ => xs.length - (intOf i).toNat)
    case atStart => exact ⟨0, Nat.zero_le _, rfl, by simp, Law.Drawn.refl _⟩
    case round =>
      obtain ⟨k, hk, rfl, he, hD⟩ := hrel
      have HD := Lib.hid hD
      have HQ := Lib.hid he
      clear hD he
      by_cases hlt : k < xs.length
      · have hlt' : k < ys.length := by rw [← HL.out]; exact hlt
        obtain ⟨b1, o1, e1, _, l1, q1⟩ := (HD.out.seq HS.out).int hlt
        obtain ⟨b2, o2, e2, _, l2, q2⟩ := (HD.out.seq HT.out).int hlt'
        subst e1 e2
        have t1 := Lib.hid (List.take_succ_eq_append_getElem hlt)
        have t2 := Lib.hid (List.take_succ_eq_append_getElem hlt')
        have HN : Hid (xs[k] ≠ ys[k] → decide (xs = ys) = false) := fun hne => by
          simp only [decide_eq_false_iff_not]
          intro h
          subst h
          exact hne rfl
        generalize xs[k] = x at *
        generalize ys[k] = y at *
        by_cases hxy : x = y
        · subst hxy
          have d1 : (x != x) = false := by simp
          go_wp2_with fail
          go_quiet (fail)
          go_wp2_with fail
          go_roundw
          case rel => exact ⟨k + 1, by omega, by go_num, by rw [t1.out, t2.out, HQ.out], HD.out.drewN _⟩
          case measure => simp [intOf]; omega
        · have d1 : (x != y) = true := by simpa using hxy
          go_wp2_with fail
          go_quiet (fail)
          go_wp2_with fail
          go_ret
          exact ⟨ret_bool (HN.out hxy).symm, HD.out.drewN _⟩
      · have HE : Hid (decide (xs = ys) = true) := by
          have := HQ.out
          rw [List.take_of_length_le (by omega), List.take_of_length_le (by rw [← HL.out]; omega)] at this
          show _ = _
          simp [this]
        go_wp2_with fail
        go_ret
        exact ⟨ret_bool HE.out.symm, HD.out⟩
  · have HE : Hid (decide (xs = ys) = false) := by
      show _ = _
      simp only [decide_eq_false_iff_not]
      intro h
      subst h
      exact hl rfl
    have d1 : ((xs.length : Int) != (ys.length : Int)) = true := by simp; omega
    go_enter Try.func11, Try.ntmps11
    go_wp2_with fail
    go_ret
    exact ⟨ret_bool HE.out.symm, Law.Drawn.refl _⟩
end Ring
end Go.Proofs.Ytcpaenoennlboaa
