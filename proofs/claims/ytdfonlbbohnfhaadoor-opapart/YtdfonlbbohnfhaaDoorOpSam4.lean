/-
  Are two ops the same, in what counts? At a Batch; of any kind.
-/
import Derived.Test.YtdfonlbbohnfhaaDoorOpSam3
import Derived.Test.YtdfonlbbohnfhaaDoorOpBad
namespace Go.Proofs.YtdfonlbbohnfhaaDoor
open Go.RowKit Go.Shelf
attribute [local go_sem] Oper.semAt_some
namespace Opx
open Go.Law
set_option maxRecDepth 100000 in
set_option maxHeartbeats 4000000 in
theorem sameO5 (user user' : ByteArray) (id st pr ttl id' st' pr' ttl' : Int) (A A' : Option Addr) (c c' : Nat) (us us' : List ByteArray) {w : World} (hs : Seq w 0 w.heap.size A (us.map .string)) (hs' : Seq w 0 w.heap.size A' (us'.map .string)) (hl : us.length ≤ 1000) (hl' : us'.length ≤ 1000) {r : Bool} (hr : decide (us = us') = r) :
    Calls Tryd.prog 8 #[.agg #[.int .i64 5, .string user, .int .i64 id, .int .i64 st, .int .i64 pr, .int .u64 ttl, .slice A us.length c], .agg #[.int .i64 5, .string user', .int .i64 id', .int .i64 st', .int .i64 pr', .int .u64 ttl', .slice A' us'.length c']] w fun e w' => e = .returned (.bool r) ∧ Below w.heap.size w w' := by
  have b1 := ((Below.refl w.heap.size w).alloc (Nat.le_refl _) (.cells #[.int .i64 5, .string user, .int .i64 id, .int .i64 st, .int .i64 pr, .int .u64 ttl, .slice A us.length c] 25)).alloc (by simp) (.cells #[.int .i64 5, .string user', .int .i64 id', .int .i64 st', .int .i64 pr', .int .u64 ttl', .slice A' us'.length c'] 25)
  have HX : Hid (Is ((w.alloc (.cells #[.int .i64 5, .string user, .int .i64 id, .int .i64 st, .int .i64 pr, .int .u64 ttl, .slice A us.length c] 25)).alloc (.cells #[.int .i64 5, .string user', .int .i64 id', .int .i64 st', .int .i64 pr', .int .u64 ttl', .slice A' us'.length c'] 25)) w.heap.size 25 #[.int .i64 5, .string user, .int .i64 id, .int .i64 st, .int .i64 pr, .int .u64 ttl, .slice A us.length c]) := Lib.hid ((Is.new w _ _ rfl).alloc _)
  have HY : Hid (Is ((w.alloc (.cells #[.int .i64 5, .string user, .int .i64 id, .int .i64 st, .int .i64 pr, .int .u64 ttl, .slice A us.length c] 25)).alloc (.cells #[.int .i64 5, .string user', .int .i64 id', .int .i64 st', .int .i64 pr', .int .u64 ttl', .slice A' us'.length c'] 25)) (w.heap.size + 1) 25 #[.int .i64 5, .string user', .int .i64 id', .int .i64 st', .int .i64 pr', .int .u64 ttl', .slice A' us'.length c']) := Lib.hid (Is.new _ _ _ (by simp))
  have HS := Lib.hid ((hs.below b1).more b1.size)
  have HS' := Lib.hid ((hs'.below b1).more b1.size)
  have HB := Lib.hid b1
  clear hs hs' b1
  by_cases h3 : us.length = us'.length
  rotate_left
  · have d3 : ((us.length : Int) != (us'.length : Int)) = true := by simp; omega
    have q : r = false := by rw [← hr]; exact decide_eq_false fun h => h3 (by rw [h])
    subst q
    go_enter Tryd.func8, Tryd.ntmps8
    go_wp2_with fail
    go_ret
    exact ⟨rfl, HB.out⟩
  have d3 : ((us.length : Int) != (us'.length : Int)) = false := by simp; omega
  have H3 := Lib.hid h3
  have HR := Lib.hid hr
  clear h3 hr
  go_enter Tryd.func8, Tryd.ntmps8
  go_wp2_with fail
  generalize ((w.alloc (.cells #[.int .i64 5, .string user, .int .i64 id, .int .i64 st, .int .i64 pr, .int .u64 ttl, .slice A us.length c] 25)).alloc (.cells #[.int .i64 5, .string user', .int .i64 id', .int .i64 st', .int .i64 pr', .int .u64 ttl', .slice A' us'.length c'] 25)) = w1 at *
  have lx := HX.out.lt
  have ly := HY.out.lt
  have x6 : w1.cell? ⟨w.heap.size, 6, none⟩ = some (.slice A us.length c) := HX.out.cell' rfl
  have y6 : w1.cell? ⟨w.heap.size + 1, 6, none⟩ = some (.slice A' us'.length c') := HY.out.cell' rfl
  go_loopw [5] (fun i wr => ∃ j : Nat, j ≤ us.length ∧ i = .int .i64 j ∧ us.take j = us'.take j ∧ Drawn w1 wr) (fun i _ => us.length - (intOf i).toNat)
  case atStart => exact ⟨0, Nat.zero_le _, rfl, rfl, Drawn.refl w1⟩
  case round =>
    obtain ⟨j, hj, rfl, ht, q, rfl⟩ := hrel
    have hpart := op_part (HX.out.drewN q)
    have hpart' := op_part (HY.out.drewN q)
    have HT := Lib.hid ht
    clear ht
    by_cases hlt : j < us.length
    · have d1 : decide ((j : Int) < (us.length : Int)) = true := by simp; omega
      have hlt2 : j < us'.length := by have := H3.out; omega
      have HTX := Lib.hid (List.take_succ_eq_append_getElem hlt)
      have HTY := Lib.hid (List.take_succ_eq_append_getElem hlt2)
      obtain ⟨b, off, rfl, _, hb, c0⟩ := HS.out.str hlt
      obtain ⟨b', off', rfl, _, hb', c0'⟩ := HS'.out.str hlt2
      generalize hu : us[j] = u at *
      generalize hu' : us'[j] = u' at *
      by_cases he : u = u'
      · subst he
        clear hu hu'
        go_wp2_with fail
        go_quiet (fail)
        go_wp2_with fail
        go_roundw
        case rel => exact ⟨j + 1, by omega, by go_num, by rw [HTX.out, HTY.out, HT.out], ⟨_, rfl⟩⟩
        case measure => simp [intOf]; omega
      · have n0 : (u.toList == u'.toList) = false := lst_ne he
        have HN : Hid (r = false) := Lib.hid (by rw [← HR.out]; exact decide_eq_false fun h => he (by subst h; rw [← hu, ← hu']))
        clear hu hu' HTX HTY
        go_wp2_with fail
        go_quiet (fail)
        go_wp2_with fail
        go_ret
        exact ⟨by rw [HN.out]; rfl, Law.below_drewN (Law.below_drewN HB.out _) _⟩
    · have d1 : decide ((j : Int) < (us.length : Int)) = false := by simp; omega
      have HN : Hid (r = true) := Lib.hid (by rw [← HR.out]; exact decide_eq_true (by have := HT.out; have h3 := H3.out; rw [List.take_of_length_le (by omega), List.take_of_length_le (by omega)] at this; exact this))
      go_wp2_with fail
      go_ret
      exact ⟨by rw [HN.out]; rfl, Law.below_drewN HB.out _⟩
/-- of any op whose kind there is -/
theorem lawSame (x y : OpW) {w : World} (hx : x.In w) (hy : y.In w) (lx : x.us.length ≤ 1000) (ly : y.us.length ≤ 1000) (kx : 1 ≤ x.kind ∧ x.kind ≤ 9) {r : Bool} (hr : sameB x y = r) : Calls Tryd.prog 8 #[.agg x.box, .agg y.box] w fun e w' => e = .returned (.bool r) ∧ Below w.heap.size w w' := by
  obtain ⟨k, user, id, st, pr, ttl, A, c, us⟩ := x
  obtain ⟨k', user', id', st', pr', ttl', A', c', us'⟩ := y
  obtain ⟨hs, _⟩ := hx
  obtain ⟨hs', _⟩ := hy
  simp only at hs hs' lx ly kx
  unfold sameB at hr
  simp only at hr
  show Calls _ _ #[.agg #[.int .i64 k, .string user, .int .i64 id, .int .i64 st, .int .i64 pr, .int .u64 ttl, .slice A us.length c], .agg #[.int .i64 k', .string user', .int .i64 id', .int .i64 st', .int .i64 pr', .int .u64 ttl', .slice A' us'.length c']] _ _
  by_cases hk : k = k'
  · subst hk
    have h9 : k = 1 ∨ k = 2 ∨ k = 3 ∨ k = 4 ∨ k = 5 ∨ k = 6 ∨ k = 7 ∨ k = 8 ∨ k = 9 := by omega
    rw [decide_eq_true rfl, Bool.true_and] at hr
    rcases h9 with rfl | rfl | rfl | rfl | rfl | rfl | rfl | rfl | rfl
    · exact sameO1 user user' id st pr ttl id' st' pr' ttl' A A' c c' us us' hr
    · exact sameO2 user user' id st pr ttl id' st' pr' ttl' A A' c c' us us' hr
    · exact sameO3 user user' id st pr ttl id' st' pr' ttl' A A' c c' us us' hr
    · exact sameO4 user user' id st pr ttl id' st' pr' ttl' A A' c c' us us' hr
    · exact sameO5 user user' id st pr ttl id' st' pr' ttl' A A' c c' us us' hs hs' lx ly hr
    · exact sameO6 user user' id st pr ttl id' st' pr' ttl' A A' c c' us us' hr
    · exact sameO7 user user' id st pr ttl id' st' pr' ttl' A A' c c' us us' hr
    · exact sameO8 user user' id st pr ttl id' st' pr' ttl' A A' c c' us us' hr
    · exact sameO9 user user' id st pr ttl id' st' pr' ttl' A A' c c' us us' hr
  · rw [decide_eq_false hk, Bool.false_and] at hr
    exact sameO0 user user' id st pr ttl id' st' pr' ttl' A A' c c' us us' hk hr
end Opx
end Go.Proofs.YtdfonlbbohnfhaaDoor
