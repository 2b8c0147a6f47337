/-
  AggrBetter: whatever the three sessions, the statement's function returns true, and the arguments read as before. No condition. (Written by mkbetter.py.)
-/
import Derived.Test.YtmcbjfmlncellaaAggr04
import Derived.Test.YtmcbjfmlncellaaSessO
import Derived.Lib.QuietBelow
import Derived.BigQuiet
namespace Go.Proofs.Ytmcbjfmlncellaa.aggrBetter
open Go.ChangeShapes Go.WideShapes Go.ChangeAt Go.RowKit
open Go.Law Go.Proofs.Ytmcbjfmlncellaa.Aggr
theorem betterB (a b : Sn) (r : Bool) (hr : better a b = r) (w : World) :
    Calls Try.prog 16 #[V a, V b] w fun e w' => e = .returned (.bool r) ∧ Below w.heap.size w w' :=
  (better_ a b r hr w).mono fun _ _ ⟨h1, h2⟩ => ⟨h1, h2 ▸ ((Below.refl _ w).alloc (Nat.le_refl _) _).alloc (by simp) _⟩
theorem betterX (a0 a1 a2 a3 b0 b1 b2 b3 : Int) (r : Bool) (hr : better (a0, a1, a2, a3) (b0, b1, b2, b3) = r) (w : World) :
    Calls Try.prog 16 #[.agg #[.int .i64 a0, .int .i64 a1, .int .i64 a2, .int .u64 a3], .agg #[.int .i64 b0, .int .i64 b1, .int .i64 b2, .int .u64 b3]] w fun e w' => e = .returned (.bool r) ∧ Below w.heap.size w w' :=
  betterB (a0, a1, a2, a3) (b0, b1, b2, b3) r hr w

set_option maxRecDepth 100000 in
set_option maxHeartbeats 8000000 in
theorem walk (a b c : Sn) (w : World) :
    Calls Try.prog 4 #[V a, V b, V c] w fun e w' => e = .returned (.bool true) ∧ Below w.heap.size w w' := by
  obtain ⟨a0, a1, a2, a3⟩ := a
  obtain ⟨b0, b1, b2, b3⟩ := b
  obtain ⟨c0, c1, c2, c3⟩ := c
  unfold V
  have B0 := (((Below.refl w.heap.size w).alloc (Nat.le_refl _) (.cells #[.int .i64 a0, .int .i64 a1, .int .i64 a2, .int .u64 a3] 30)).alloc (by simp) (.cells #[.int .i64 b0, .int .i64 b1, .int .i64 b2, .int .u64 b3] 30)).alloc (by simp; omega) (.cells #[.int .i64 c0, .int .i64 c1, .int .i64 c2, .int .u64 c3] 30)
  have Ia := ((Is.new w 30 #[.int .i64 a0, .int .i64 a1, .int .i64 a2, .int .u64 a3] rfl).alloc (.cells #[.int .i64 b0, .int .i64 b1, .int .i64 b2, .int .u64 b3] 30)).alloc (.cells #[.int .i64 c0, .int .i64 c1, .int .i64 c2, .int .u64 c3] 30)
  have Ib := (Is.new (w.alloc (.cells #[.int .i64 a0, .int .i64 a1, .int .i64 a2, .int .u64 a3] 30)) 30 #[.int .i64 b0, .int .i64 b1, .int .i64 b2, .int .u64 b3] (g := w.heap.size + 1) (by simp)).alloc (.cells #[.int .i64 c0, .int .i64 c1, .int .i64 c2, .int .u64 c3] 30)
  have Ic := Is.new ((w.alloc (.cells #[.int .i64 a0, .int .i64 a1, .int .i64 a2, .int .u64 a3] 30)).alloc (.cells #[.int .i64 b0, .int .i64 b1, .int .i64 b2, .int .u64 b3] 30)) 30 #[.int .i64 c0, .int .i64 c1, .int .i64 c2, .int .u64 c3] (g := w.heap.size + 1 + 1) (by simp)
  go_enter Try.func4, Try.ntmps4
  go_wp2_with fail
  generalize ((w.alloc (.cells #[.int .i64 a0, .int .i64 a1, .int .i64 a2, .int .u64 a3] 30)).alloc (.cells #[.int .i64 b0, .int .i64 b1, .int .i64 b2, .int .u64 b3] 30)).alloc (.cells #[.int .i64 c0, .int .i64 c1, .int .i64 c2, .int .u64 c3] 30) = w0 at *
  refine (awake _).mono ?_
  rintro e w1 ⟨rfl, t1⟩
  have HB := Lib.hid (B0.trans (t1.mono B0.size))
  have Ja := Lib.hid (Ia.below t1 Ia.lt)
  have Jb := Lib.hid (Ib.below t1 Ib.lt)
  have Jc := Lib.hid (Ic.below t1 Ic.lt)
  clear t1 B0 Ia Ib Ic
  have Ia := Ja
  have Ib := Jb
  have Ic := Jc
  have ka0 : w1.cell? ⟨w.heap.size, 0, none⟩ = some (.int .i64 a0) := Ia.out.cell' rfl
  have ka1 : w1.cell? ⟨w.heap.size, 1, none⟩ = some (.int .i64 a1) := Ia.out.cell' rfl
  have ka2 : w1.cell? ⟨w.heap.size, 2, none⟩ = some (.int .i64 a2) := Ia.out.cell' rfl
  have ka3 : w1.cell? ⟨w.heap.size, 3, none⟩ = some (.int .u64 a3) := Ia.out.cell' rfl
  have kb0 : w1.cell? ⟨w.heap.size + 1, 0, none⟩ = some (.int .i64 b0) := Ib.out.cell' rfl
  have kb1 : w1.cell? ⟨w.heap.size + 1, 1, none⟩ = some (.int .i64 b1) := Ib.out.cell' rfl
  have kb2 : w1.cell? ⟨w.heap.size + 1, 2, none⟩ = some (.int .i64 b2) := Ib.out.cell' rfl
  have kb3 : w1.cell? ⟨w.heap.size + 1, 3, none⟩ = some (.int .u64 b3) := Ib.out.cell' rfl
  have kc0 : w1.cell? ⟨w.heap.size + 1 + 1, 0, none⟩ = some (.int .i64 c0) := Ic.out.cell' rfl
  have kc1 : w1.cell? ⟨w.heap.size + 1 + 1, 1, none⟩ = some (.int .i64 c1) := Ic.out.cell' rfl
  have kc2 : w1.cell? ⟨w.heap.size + 1 + 1, 2, none⟩ = some (.int .i64 c2) := Ic.out.cell' rfl
  have kc3 : w1.cell? ⟨w.heap.size + 1 + 1, 3, none⟩ = some (.int .u64 c3) := Ic.out.cell' rfl
  have la := Ia.out.lt
  have lb := Ib.out.lt
  have lc := Ic.out.lt
  rcases (by omega : b2 < a2 ∨ a2 < b2 ∨ (a2 = b2 ∧ a0 < b0) ∨ (a2 = b2 ∧ b0 < a0) ∨ (a2 = b2 ∧ a0 = b0)) with h | h | h | h | h
  · have ab : better (a0, a1, a2, a3) (b0, b1, b2, b3) = true := by rw [better_iff]; simp only; omega
    have ba : better (b0, b1, b2, b3) (a0, a1, a2, a3) = false := by rw [Bool.eq_false_iff, ne_eq, better_iff]; simp only; omega
    have d1 : decide (b2 < a2) = true := by simpa using h
    have d2 : (a2 == b2) = false := by simp; omega
    have e2 : (a2 != b2) = true := by simp; omega
    have hh := Lib.hid h
    clear h
    have CAA := Lib.hid (betterX a0 a1 a2 a3 a0 a1 a2 a3 false (better_self _))
    have CAB := Lib.hid (betterX a0 a1 a2 a3 b0 b1 b2 b3 true ab)
    have CBA := Lib.hid (betterX b0 b1 b2 b3 a0 a1 a2 a3 false ba)
    go_wp2_with fail
    have qa0 := cell_regrown ka0
    have qa1 := cell_regrown ka1
    have qa2 := cell_regrown ka2
    have qa3 := cell_regrown ka3
    have qb0 := cell_regrown kb0
    have qb1 := cell_regrown kb1
    have qb2 := cell_regrown kb2
    have qb3 := cell_regrown kb3
    clear ka0 ka1 ka2 ka3 kb0 kb1 kb2 kb3 kc0 kc1 kc2 kc3 la lb lc
    refine wp_region_quiet_below (by kernel_rfl) (by kernel_rfl) ?_
    repeat (go_big_quiet_step (first
      | (go_at_call 16; with_reducible exact Calls.regrown_of (CAA.out _))
      | (go_at_call 16; with_reducible exact Calls.regrown_of (CAB.out _))))
    refine wpQuiet_nil ?_
    intro _ hw'
    obtain ⟨⟨nq, osq⟩, hw''⟩ := hw'
    subst hw''
    have Kz := below_regrown w1 nq osq
    have HB := Lib.hid (HB.out.trans (Kz.mono HB.out.size))
    have Ia := Lib.hid (Ia.out.below Kz Ia.out.lt)
    have Ib := Lib.hid (Ib.out.below Kz Ib.out.lt)
    have Ic := Lib.hid (Ic.out.below Kz Ic.out.lt)
    clear Kz qa0 qa1 qa2 qa3 qb0 qb1 qb2 qb3
    generalize Go.Sort.grow (redrawn w1 nq) osq = w2 at *
    have ka0 : w2.cell? ⟨w.heap.size, 0, none⟩ = some (.int .i64 a0) := Ia.out.cell' rfl
    have ka1 : w2.cell? ⟨w.heap.size, 1, none⟩ = some (.int .i64 a1) := Ia.out.cell' rfl
    have ka2 : w2.cell? ⟨w.heap.size, 2, none⟩ = some (.int .i64 a2) := Ia.out.cell' rfl
    have ka3 : w2.cell? ⟨w.heap.size, 3, none⟩ = some (.int .u64 a3) := Ia.out.cell' rfl
    have kb0 : w2.cell? ⟨w.heap.size + 1, 0, none⟩ = some (.int .i64 b0) := Ib.out.cell' rfl
    have kb1 : w2.cell? ⟨w.heap.size + 1, 1, none⟩ = some (.int .i64 b1) := Ib.out.cell' rfl
    have kb2 : w2.cell? ⟨w.heap.size + 1, 2, none⟩ = some (.int .i64 b2) := Ib.out.cell' rfl
    have kb3 : w2.cell? ⟨w.heap.size + 1, 3, none⟩ = some (.int .u64 b3) := Ib.out.cell' rfl
    have kc0 : w2.cell? ⟨w.heap.size + 1 + 1, 0, none⟩ = some (.int .i64 c0) := Ic.out.cell' rfl
    have kc1 : w2.cell? ⟨w.heap.size + 1 + 1, 1, none⟩ = some (.int .i64 c1) := Ic.out.cell' rfl
    have kc2 : w2.cell? ⟨w.heap.size + 1 + 1, 2, none⟩ = some (.int .i64 c2) := Ic.out.cell' rfl
    have kc3 : w2.cell? ⟨w.heap.size + 1 + 1, 3, none⟩ = some (.int .u64 c3) := Ic.out.cell' rfl
    have la := Ia.out.lt
    have lb := Ib.out.lt
    have lc := Ic.out.lt
    go_wp2_with fail
    have qa0 := cell_regrown ka0
    have qa1 := cell_regrown ka1
    have qa2 := cell_regrown ka2
    have qa3 := cell_regrown ka3
    have qb0 := cell_regrown kb0
    have qb1 := cell_regrown kb1
    have qb2 := cell_regrown kb2
    have qb3 := cell_regrown kb3
    clear ka0 ka1 ka2 ka3 kb0 kb1 kb2 kb3 kc0 kc1 kc2 kc3 la lb lc
    refine wp_region_quiet_below (by kernel_rfl) (by kernel_rfl) ?_
    repeat (go_big_quiet_step (first
      | (go_at_call 16; with_reducible exact Calls.regrown_of (CAB.out _))
      | (go_at_call 16; with_reducible exact Calls.regrown_of (CBA.out _))))
    refine wpQuiet_nil ?_
    intro _ hw'
    obtain ⟨⟨nq, osq⟩, hw''⟩ := hw'
    subst hw''
    have Kz := below_regrown w2 nq osq
    have HB := Lib.hid (HB.out.trans (Kz.mono HB.out.size))
    have Ia := Lib.hid (Ia.out.below Kz Ia.out.lt)
    have Ib := Lib.hid (Ib.out.below Kz Ib.out.lt)
    have Ic := Lib.hid (Ic.out.below Kz Ic.out.lt)
    clear Kz qa0 qa1 qa2 qa3 qb0 qb1 qb2 qb3
    generalize Go.Sort.grow (redrawn w2 nq) osq = w3 at *
    have ka0 : w3.cell? ⟨w.heap.size, 0, none⟩ = some (.int .i64 a0) := Ia.out.cell' rfl
    have ka1 : w3.cell? ⟨w.heap.size, 1, none⟩ = some (.int .i64 a1) := Ia.out.cell' rfl
    have ka2 : w3.cell? ⟨w.heap.size, 2, none⟩ = some (.int .i64 a2) := Ia.out.cell' rfl
    have ka3 : w3.cell? ⟨w.heap.size, 3, none⟩ = some (.int .u64 a3) := Ia.out.cell' rfl
    have kb0 : w3.cell? ⟨w.heap.size + 1, 0, none⟩ = some (.int .i64 b0) := Ib.out.cell' rfl
    have kb1 : w3.cell? ⟨w.heap.size + 1, 1, none⟩ = some (.int .i64 b1) := Ib.out.cell' rfl
    have kb2 : w3.cell? ⟨w.heap.size + 1, 2, none⟩ = some (.int .i64 b2) := Ib.out.cell' rfl
    have kb3 : w3.cell? ⟨w.heap.size + 1, 3, none⟩ = some (.int .u64 b3) := Ib.out.cell' rfl
    have kc0 : w3.cell? ⟨w.heap.size + 1 + 1, 0, none⟩ = some (.int .i64 c0) := Ic.out.cell' rfl
    have kc1 : w3.cell? ⟨w.heap.size + 1 + 1, 1, none⟩ = some (.int .i64 c1) := Ic.out.cell' rfl
    have kc2 : w3.cell? ⟨w.heap.size + 1 + 1, 2, none⟩ = some (.int .i64 c2) := Ic.out.cell' rfl
    have kc3 : w3.cell? ⟨w.heap.size + 1 + 1, 3, none⟩ = some (.int .u64 c3) := Ic.out.cell' rfl
    have la := Ia.out.lt
    have lb := Ib.out.lt
    have lc := Ic.out.lt
    go_wp2_with fail
    refine (betterX a0 a1 a2 a3 b0 b1 b2 b3 true ab _).mono ?_
    rintro e w4 ⟨rfl, b4⟩
    have HB := Lib.hid (HB.out.trans (b4.mono HB.out.size))
    have Ia := Lib.hid (Ia.out.below b4 Ia.out.lt)
    have Ib := Lib.hid (Ib.out.below b4 Ib.out.lt)
    have Ic := Lib.hid (Ic.out.below b4 Ic.out.lt)
    clear b4 ka0 ka1 ka2 ka3 kb0 kb1 kb2 kb3 kc0 kc1 kc2 kc3 la lb lc
    have ka0 : w4.cell? ⟨w.heap.size, 0, none⟩ = some (.int .i64 a0) := Ia.out.cell' rfl
    have ka1 : w4.cell? ⟨w.heap.size, 1, none⟩ = some (.int .i64 a1) := Ia.out.cell' rfl
    have ka2 : w4.cell? ⟨w.heap.size, 2, none⟩ = some (.int .i64 a2) := Ia.out.cell' rfl
    have ka3 : w4.cell? ⟨w.heap.size, 3, none⟩ = some (.int .u64 a3) := Ia.out.cell' rfl
    have kb0 : w4.cell? ⟨w.heap.size + 1, 0, none⟩ = some (.int .i64 b0) := Ib.out.cell' rfl
    have kb1 : w4.cell? ⟨w.heap.size + 1, 1, none⟩ = some (.int .i64 b1) := Ib.out.cell' rfl
    have kb2 : w4.cell? ⟨w.heap.size + 1, 2, none⟩ = some (.int .i64 b2) := Ib.out.cell' rfl
    have kb3 : w4.cell? ⟨w.heap.size + 1, 3, none⟩ = some (.int .u64 b3) := Ib.out.cell' rfl
    have kc0 : w4.cell? ⟨w.heap.size + 1 + 1, 0, none⟩ = some (.int .i64 c0) := Ic.out.cell' rfl
    have kc1 : w4.cell? ⟨w.heap.size + 1 + 1, 1, none⟩ = some (.int .i64 c1) := Ic.out.cell' rfl
    have kc2 : w4.cell? ⟨w.heap.size + 1 + 1, 2, none⟩ = some (.int .i64 c2) := Ic.out.cell' rfl
    have kc3 : w4.cell? ⟨w.heap.size + 1 + 1, 3, none⟩ = some (.int .u64 c3) := Ic.out.cell' rfl
    have la := Ia.out.lt
    have lb := Ib.out.lt
    have lc := Ic.out.lt
    go_wp2_with fail
    cases bc : better (b0, b1, b2, b3) (c0, c1, c2, c3) with
    | false =>
      refine (betterX b0 b1 b2 b3 c0 c1 c2 c3 false bc _).mono ?_
      rintro e w5 ⟨rfl, b4⟩
      have HB := Lib.hid (HB.out.trans (b4.mono HB.out.size))
      have Ia := Lib.hid (Ia.out.below b4 Ia.out.lt)
      have Ib := Lib.hid (Ib.out.below b4 Ib.out.lt)
      have Ic := Lib.hid (Ic.out.below b4 Ic.out.lt)
      clear b4 ka0 ka1 ka2 ka3 kb0 kb1 kb2 kb3 kc0 kc1 kc2 kc3 la lb lc
      have ka0 : w5.cell? ⟨w.heap.size, 0, none⟩ = some (.int .i64 a0) := Ia.out.cell' rfl
      have ka1 : w5.cell? ⟨w.heap.size, 1, none⟩ = some (.int .i64 a1) := Ia.out.cell' rfl
      have ka2 : w5.cell? ⟨w.heap.size, 2, none⟩ = some (.int .i64 a2) := Ia.out.cell' rfl
      have ka3 : w5.cell? ⟨w.heap.size, 3, none⟩ = some (.int .u64 a3) := Ia.out.cell' rfl
      have kb0 : w5.cell? ⟨w.heap.size + 1, 0, none⟩ = some (.int .i64 b0) := Ib.out.cell' rfl
      have kb1 : w5.cell? ⟨w.heap.size + 1, 1, none⟩ = some (.int .i64 b1) := Ib.out.cell' rfl
      have kb2 : w5.cell? ⟨w.heap.size + 1, 2, none⟩ = some (.int .i64 b2) := Ib.out.cell' rfl
      have kb3 : w5.cell? ⟨w.heap.size + 1, 3, none⟩ = some (.int .u64 b3) := Ib.out.cell' rfl
      have kc0 : w5.cell? ⟨w.heap.size + 1 + 1, 0, none⟩ = some (.int .i64 c0) := Ic.out.cell' rfl
      have kc1 : w5.cell? ⟨w.heap.size + 1 + 1, 1, none⟩ = some (.int .i64 c1) := Ic.out.cell' rfl
      have kc2 : w5.cell? ⟨w.heap.size + 1 + 1, 2, none⟩ = some (.int .i64 c2) := Ic.out.cell' rfl
      have kc3 : w5.cell? ⟨w.heap.size + 1 + 1, 3, none⟩ = some (.int .u64 c3) := Ic.out.cell' rfl
      have la := Ia.out.lt
      have lb := Ib.out.lt
      have lc := Ic.out.lt
      go_wp2_with fail
      go_ret
      exact ⟨rfl, HB.out⟩
    | true =>
      have ac : better (a0, a1, a2, a3) (c0, c1, c2, c3) = true := better_trans ab bc
      refine (betterX b0 b1 b2 b3 c0 c1 c2 c3 true bc _).mono ?_
      rintro e w5 ⟨rfl, b4⟩
      have HB := Lib.hid (HB.out.trans (b4.mono HB.out.size))
      have Ia := Lib.hid (Ia.out.below b4 Ia.out.lt)
      have Ib := Lib.hid (Ib.out.below b4 Ib.out.lt)
      have Ic := Lib.hid (Ic.out.below b4 Ic.out.lt)
      clear b4 ka0 ka1 ka2 ka3 kb0 kb1 kb2 kb3 kc0 kc1 kc2 kc3 la lb lc
      have ka0 : w5.cell? ⟨w.heap.size, 0, none⟩ = some (.int .i64 a0) := Ia.out.cell' rfl
      have ka1 : w5.cell? ⟨w.heap.size, 1, none⟩ = some (.int .i64 a1) := Ia.out.cell' rfl
      have ka2 : w5.cell? ⟨w.heap.size, 2, none⟩ = some (.int .i64 a2) := Ia.out.cell' rfl
      have ka3 : w5.cell? ⟨w.heap.size, 3, none⟩ = some (.int .u64 a3) := Ia.out.cell' rfl
      have kb0 : w5.cell? ⟨w.heap.size + 1, 0, none⟩ = some (.int .i64 b0) := Ib.out.cell' rfl
      have kb1 : w5.cell? ⟨w.heap.size + 1, 1, none⟩ = some (.int .i64 b1) := Ib.out.cell' rfl
      have kb2 : w5.cell? ⟨w.heap.size + 1, 2, none⟩ = some (.int .i64 b2) := Ib.out.cell' rfl
      have kb3 : w5.cell? ⟨w.heap.size + 1, 3, none⟩ = some (.int .u64 b3) := Ib.out.cell' rfl
      have kc0 : w5.cell? ⟨w.heap.size + 1 + 1, 0, none⟩ = some (.int .i64 c0) := Ic.out.cell' rfl
      have kc1 : w5.cell? ⟨w.heap.size + 1 + 1, 1, none⟩ = some (.int .i64 c1) := Ic.out.cell' rfl
      have kc2 : w5.cell? ⟨w.heap.size + 1 + 1, 2, none⟩ = some (.int .i64 c2) := Ic.out.cell' rfl
      have kc3 : w5.cell? ⟨w.heap.size + 1 + 1, 3, none⟩ = some (.int .u64 c3) := Ic.out.cell' rfl
      have la := Ia.out.lt
      have lb := Ib.out.lt
      have lc := Ic.out.lt
      go_wp2_with fail
      refine (betterX a0 a1 a2 a3 c0 c1 c2 c3 true ac _).mono ?_
      rintro e w6 ⟨rfl, b4⟩
      have HB := Lib.hid (HB.out.trans (b4.mono HB.out.size))
      have Ia := Lib.hid (Ia.out.below b4 Ia.out.lt)
      have Ib := Lib.hid (Ib.out.below b4 Ib.out.lt)
      have Ic := Lib.hid (Ic.out.below b4 Ic.out.lt)
      clear b4 ka0 ka1 ka2 ka3 kb0 kb1 kb2 kb3 kc0 kc1 kc2 kc3 la lb lc
      have ka0 : w6.cell? ⟨w.heap.size, 0, none⟩ = some (.int .i64 a0) := Ia.out.cell' rfl
      have ka1 : w6.cell? ⟨w.heap.size, 1, none⟩ = some (.int .i64 a1) := Ia.out.cell' rfl
      have ka2 : w6.cell? ⟨w.heap.size, 2, none⟩ = some (.int .i64 a2) := Ia.out.cell' rfl
      have ka3 : w6.cell? ⟨w.heap.size, 3, none⟩ = some (.int .u64 a3) := Ia.out.cell' rfl
      have kb0 : w6.cell? ⟨w.heap.size + 1, 0, none⟩ = some (.int .i64 b0) := Ib.out.cell' rfl
      have kb1 : w6.cell? ⟨w.heap.size + 1, 1, none⟩ = some (.int .i64 b1) := Ib.out.cell' rfl
      have kb2 : w6.cell? ⟨w.heap.size + 1, 2, none⟩ = some (.int .i64 b2) := Ib.out.cell' rfl
      have kb3 : w6.cell? ⟨w.heap.size + 1, 3, none⟩ = some (.int .u64 b3) := Ib.out.cell' rfl
      have kc0 : w6.cell? ⟨w.heap.size + 1 + 1, 0, none⟩ = some (.int .i64 c0) := Ic.out.cell' rfl
      have kc1 : w6.cell? ⟨w.heap.size + 1 + 1, 1, none⟩ = some (.int .i64 c1) := Ic.out.cell' rfl
      have kc2 : w6.cell? ⟨w.heap.size + 1 + 1, 2, none⟩ = some (.int .i64 c2) := Ic.out.cell' rfl
      have kc3 : w6.cell? ⟨w.heap.size + 1 + 1, 3, none⟩ = some (.int .u64 c3) := Ic.out.cell' rfl
      have la := Ia.out.lt
      have lb := Ib.out.lt
      have lc := Ic.out.lt
      go_wp2_with fail
      go_ret
      exact ⟨rfl, HB.out⟩
  · have ab : better (a0, a1, a2, a3) (b0, b1, b2, b3) = false := by rw [Bool.eq_false_iff, ne_eq, better_iff]; simp only; omega
    have ba : better (b0, b1, b2, b3) (a0, a1, a2, a3) = true := by rw [better_iff]; simp only; omega
    have d1 : decide (b2 < a2) = false := by simp; omega
    have d2 : (a2 == b2) = false := by simp; omega
    have e2 : (a2 != b2) = true := by simp; omega
    have hh := Lib.hid h
    clear h
    have CAA := Lib.hid (betterX a0 a1 a2 a3 a0 a1 a2 a3 false (better_self _))
    have CAB := Lib.hid (betterX a0 a1 a2 a3 b0 b1 b2 b3 false ab)
    have CBA := Lib.hid (betterX b0 b1 b2 b3 a0 a1 a2 a3 true ba)
    go_wp2_with fail
    have qa0 := cell_regrown ka0
    have qa1 := cell_regrown ka1
    have qa2 := cell_regrown ka2
    have qa3 := cell_regrown ka3
    have qb0 := cell_regrown kb0
    have qb1 := cell_regrown kb1
    have qb2 := cell_regrown kb2
    have qb3 := cell_regrown kb3
    clear ka0 ka1 ka2 ka3 kb0 kb1 kb2 kb3 kc0 kc1 kc2 kc3 la lb lc
    refine wp_region_quiet_below (by kernel_rfl) (by kernel_rfl) ?_
    repeat (go_big_quiet_step (first
      | (go_at_call 16; with_reducible exact Calls.regrown_of (CAA.out _))
      | (go_at_call 16; with_reducible exact Calls.regrown_of (CAB.out _))))
    refine wpQuiet_nil ?_
    intro _ hw'
    obtain ⟨⟨nq, osq⟩, hw''⟩ := hw'
    subst hw''
    have Kz := below_regrown w1 nq osq
    have HB := Lib.hid (HB.out.trans (Kz.mono HB.out.size))
    have Ia := Lib.hid (Ia.out.below Kz Ia.out.lt)
    have Ib := Lib.hid (Ib.out.below Kz Ib.out.lt)
    have Ic := Lib.hid (Ic.out.below Kz Ic.out.lt)
    clear Kz qa0 qa1 qa2 qa3 qb0 qb1 qb2 qb3
    generalize Go.Sort.grow (redrawn w1 nq) osq = w2 at *
    have ka0 : w2.cell? ⟨w.heap.size, 0, none⟩ = some (.int .i64 a0) := Ia.out.cell' rfl
    have ka1 : w2.cell? ⟨w.heap.size, 1, none⟩ = some (.int .i64 a1) := Ia.out.cell' rfl
    have ka2 : w2.cell? ⟨w.heap.size, 2, none⟩ = some (.int .i64 a2) := Ia.out.cell' rfl
    have ka3 : w2.cell? ⟨w.heap.size, 3, none⟩ = some (.int .u64 a3) := Ia.out.cell' rfl
    have kb0 : w2.cell? ⟨w.heap.size + 1, 0, none⟩ = some (.int .i64 b0) := Ib.out.cell' rfl
    have kb1 : w2.cell? ⟨w.heap.size + 1, 1, none⟩ = some (.int .i64 b1) := Ib.out.cell' rfl
    have kb2 : w2.cell? ⟨w.heap.size + 1, 2, none⟩ = some (.int .i64 b2) := Ib.out.cell' rfl
    have kb3 : w2.cell? ⟨w.heap.size + 1, 3, none⟩ = some (.int .u64 b3) := Ib.out.cell' rfl
    have kc0 : w2.cell? ⟨w.heap.size + 1 + 1, 0, none⟩ = some (.int .i64 c0) := Ic.out.cell' rfl
    have kc1 : w2.cell? ⟨w.heap.size + 1 + 1, 1, none⟩ = some (.int .i64 c1) := Ic.out.cell' rfl
    have kc2 : w2.cell? ⟨w.heap.size + 1 + 1, 2, none⟩ = some (.int .i64 c2) := Ic.out.cell' rfl
    have kc3 : w2.cell? ⟨w.heap.size + 1 + 1, 3, none⟩ = some (.int .u64 c3) := Ic.out.cell' rfl
    have la := Ia.out.lt
    have lb := Ib.out.lt
    have lc := Ic.out.lt
    go_wp2_with fail
    have qa0 := cell_regrown ka0
    have qa1 := cell_regrown ka1
    have qa2 := cell_regrown ka2
    have qa3 := cell_regrown ka3
    have qb0 := cell_regrown kb0
    have qb1 := cell_regrown kb1
    have qb2 := cell_regrown kb2
    have qb3 := cell_regrown kb3
    clear ka0 ka1 ka2 ka3 kb0 kb1 kb2 kb3 kc0 kc1 kc2 kc3 la lb lc
    refine wp_region_quiet_below (by kernel_rfl) (by kernel_rfl) ?_
    repeat (go_big_quiet_step (first
      | (go_at_call 16; with_reducible exact Calls.regrown_of (CAB.out _))
      | (go_at_call 16; with_reducible exact Calls.regrown_of (CBA.out _))))
    refine wpQuiet_nil ?_
    intro _ hw'
    obtain ⟨⟨nq, osq⟩, hw''⟩ := hw'
    subst hw''
    have Kz := below_regrown w2 nq osq
    have HB := Lib.hid (HB.out.trans (Kz.mono HB.out.size))
    have Ia := Lib.hid (Ia.out.below Kz Ia.out.lt)
    have Ib := Lib.hid (Ib.out.below Kz Ib.out.lt)
    have Ic := Lib.hid (Ic.out.below Kz Ic.out.lt)
    clear Kz qa0 qa1 qa2 qa3 qb0 qb1 qb2 qb3
    generalize Go.Sort.grow (redrawn w2 nq) osq = w3 at *
    have ka0 : w3.cell? ⟨w.heap.size, 0, none⟩ = some (.int .i64 a0) := Ia.out.cell' rfl
    have ka1 : w3.cell? ⟨w.heap.size, 1, none⟩ = some (.int .i64 a1) := Ia.out.cell' rfl
    have ka2 : w3.cell? ⟨w.heap.size, 2, none⟩ = some (.int .i64 a2) := Ia.out.cell' rfl
    have ka3 : w3.cell? ⟨w.heap.size, 3, none⟩ = some (.int .u64 a3) := Ia.out.cell' rfl
    have kb0 : w3.cell? ⟨w.heap.size + 1, 0, none⟩ = some (.int .i64 b0) := Ib.out.cell' rfl
    have kb1 : w3.cell? ⟨w.heap.size + 1, 1, none⟩ = some (.int .i64 b1) := Ib.out.cell' rfl
    have kb2 : w3.cell? ⟨w.heap.size + 1, 2, none⟩ = some (.int .i64 b2) := Ib.out.cell' rfl
    have kb3 : w3.cell? ⟨w.heap.size + 1, 3, none⟩ = some (.int .u64 b3) := Ib.out.cell' rfl
    have kc0 : w3.cell? ⟨w.heap.size + 1 + 1, 0, none⟩ = some (.int .i64 c0) := Ic.out.cell' rfl
    have kc1 : w3.cell? ⟨w.heap.size + 1 + 1, 1, none⟩ = some (.int .i64 c1) := Ic.out.cell' rfl
    have kc2 : w3.cell? ⟨w.heap.size + 1 + 1, 2, none⟩ = some (.int .i64 c2) := Ic.out.cell' rfl
    have kc3 : w3.cell? ⟨w.heap.size + 1 + 1, 3, none⟩ = some (.int .u64 c3) := Ic.out.cell' rfl
    have la := Ia.out.lt
    have lb := Ib.out.lt
    have lc := Ic.out.lt
    go_wp2_with fail
    refine (betterX a0 a1 a2 a3 b0 b1 b2 b3 false ab _).mono ?_
    rintro e w4 ⟨rfl, b4⟩
    have HB := Lib.hid (HB.out.trans (b4.mono HB.out.size))
    have Ia := Lib.hid (Ia.out.below b4 Ia.out.lt)
    have Ib := Lib.hid (Ib.out.below b4 Ib.out.lt)
    have Ic := Lib.hid (Ic.out.below b4 Ic.out.lt)
    clear b4 ka0 ka1 ka2 ka3 kb0 kb1 kb2 kb3 kc0 kc1 kc2 kc3 la lb lc
    have ka0 : w4.cell? ⟨w.heap.size, 0, none⟩ = some (.int .i64 a0) := Ia.out.cell' rfl
    have ka1 : w4.cell? ⟨w.heap.size, 1, none⟩ = some (.int .i64 a1) := Ia.out.cell' rfl
    have ka2 : w4.cell? ⟨w.heap.size, 2, none⟩ = some (.int .i64 a2) := Ia.out.cell' rfl
    have ka3 : w4.cell? ⟨w.heap.size, 3, none⟩ = some (.int .u64 a3) := Ia.out.cell' rfl
    have kb0 : w4.cell? ⟨w.heap.size + 1, 0, none⟩ = some (.int .i64 b0) := Ib.out.cell' rfl
    have kb1 : w4.cell? ⟨w.heap.size + 1, 1, none⟩ = some (.int .i64 b1) := Ib.out.cell' rfl
    have kb2 : w4.cell? ⟨w.heap.size + 1, 2, none⟩ = some (.int .i64 b2) := Ib.out.cell' rfl
    have kb3 : w4.cell? ⟨w.heap.size + 1, 3, none⟩ = some (.int .u64 b3) := Ib.out.cell' rfl
    have kc0 : w4.cell? ⟨w.heap.size + 1 + 1, 0, none⟩ = some (.int .i64 c0) := Ic.out.cell' rfl
    have kc1 : w4.cell? ⟨w.heap.size + 1 + 1, 1, none⟩ = some (.int .i64 c1) := Ic.out.cell' rfl
    have kc2 : w4.cell? ⟨w.heap.size + 1 + 1, 2, none⟩ = some (.int .i64 c2) := Ic.out.cell' rfl
    have kc3 : w4.cell? ⟨w.heap.size + 1 + 1, 3, none⟩ = some (.int .u64 c3) := Ic.out.cell' rfl
    have la := Ia.out.lt
    have lb := Ib.out.lt
    have lc := Ic.out.lt
    go_wp2_with fail
    go_ret
    exact ⟨rfl, HB.out⟩
  · have ab : better (a0, a1, a2, a3) (b0, b1, b2, b3) = true := by rw [better_iff]; simp only; omega
    have ba : better (b0, b1, b2, b3) (a0, a1, a2, a3) = false := by rw [Bool.eq_false_iff, ne_eq, better_iff]; simp only; omega
    have d1 : decide (b2 < a2) = false := by simp; omega
    have d2 : (a2 == b2) = true := by simpa using h.1
    have e2 : (a2 != b2) = false := by simpa using h.1
    have d3 : decide (a0 < b0) = true := by simpa using h.2
    have d4 : (a0 == b0) = false := by simp; omega
    have e4 : (a0 != b0) = true := by simp; omega
    have hh := Lib.hid h
    clear h
    have CAA := Lib.hid (betterX a0 a1 a2 a3 a0 a1 a2 a3 false (better_self _))
    have CAB := Lib.hid (betterX a0 a1 a2 a3 b0 b1 b2 b3 true ab)
    have CBA := Lib.hid (betterX b0 b1 b2 b3 a0 a1 a2 a3 false ba)
    go_wp2_with fail
    have qa0 := cell_regrown ka0
    have qa1 := cell_regrown ka1
    have qa2 := cell_regrown ka2
    have qa3 := cell_regrown ka3
    have qb0 := cell_regrown kb0
    have qb1 := cell_regrown kb1
    have qb2 := cell_regrown kb2
    have qb3 := cell_regrown kb3
    clear ka0 ka1 ka2 ka3 kb0 kb1 kb2 kb3 kc0 kc1 kc2 kc3 la lb lc
    refine wp_region_quiet_below (by kernel_rfl) (by kernel_rfl) ?_
    repeat (go_big_quiet_step (first
      | (go_at_call 16; with_reducible exact Calls.regrown_of (CAA.out _))
      | (go_at_call 16; with_reducible exact Calls.regrown_of (CAB.out _))))
    refine wpQuiet_nil ?_
    intro _ hw'
    obtain ⟨⟨nq, osq⟩, hw''⟩ := hw'
    subst hw''
    have Kz := below_regrown w1 nq osq
    have HB := Lib.hid (HB.out.trans (Kz.mono HB.out.size))
    have Ia := Lib.hid (Ia.out.below Kz Ia.out.lt)
    have Ib := Lib.hid (Ib.out.below Kz Ib.out.lt)
    have Ic := Lib.hid (Ic.out.below Kz Ic.out.lt)
    clear Kz qa0 qa1 qa2 qa3 qb0 qb1 qb2 qb3
    generalize Go.Sort.grow (redrawn w1 nq) osq = w2 at *
    have ka0 : w2.cell? ⟨w.heap.size, 0, none⟩ = some (.int .i64 a0) := Ia.out.cell' rfl
    have ka1 : w2.cell? ⟨w.heap.size, 1, none⟩ = some (.int .i64 a1) := Ia.out.cell' rfl
    have ka2 : w2.cell? ⟨w.heap.size, 2, none⟩ = some (.int .i64 a2) := Ia.out.cell' rfl
    have ka3 : w2.cell? ⟨w.heap.size, 3, none⟩ = some (.int .u64 a3) := Ia.out.cell' rfl
    have kb0 : w2.cell? ⟨w.heap.size + 1, 0, none⟩ = some (.int .i64 b0) := Ib.out.cell' rfl
    have kb1 : w2.cell? ⟨w.heap.size + 1, 1, none⟩ = some (.int .i64 b1) := Ib.out.cell' rfl
    have kb2 : w2.cell? ⟨w.heap.size + 1, 2, none⟩ = some (.int .i64 b2) := Ib.out.cell' rfl
    have kb3 : w2.cell? ⟨w.heap.size + 1, 3, none⟩ = some (.int .u64 b3) := Ib.out.cell' rfl
    have kc0 : w2.cell? ⟨w.heap.size + 1 + 1, 0, none⟩ = some (.int .i64 c0) := Ic.out.cell' rfl
    have kc1 : w2.cell? ⟨w.heap.size + 1 + 1, 1, none⟩ = some (.int .i64 c1) := Ic.out.cell' rfl
    have kc2 : w2.cell? ⟨w.heap.size + 1 + 1, 2, none⟩ = some (.int .i64 c2) := Ic.out.cell' rfl
    have kc3 : w2.cell? ⟨w.heap.size + 1 + 1, 3, none⟩ = some (.int .u64 c3) := Ic.out.cell' rfl
    have la := Ia.out.lt
    have lb := Ib.out.lt
    have lc := Ic.out.lt
    go_wp2_with fail
    have qa0 := cell_regrown ka0
    have qa1 := cell_regrown ka1
    have qa2 := cell_regrown ka2
    have qa3 := cell_regrown ka3
    have qb0 := cell_regrown kb0
    have qb1 := cell_regrown kb1
    have qb2 := cell_regrown kb2
    have qb3 := cell_regrown kb3
    clear ka0 ka1 ka2 ka3 kb0 kb1 kb2 kb3 kc0 kc1 kc2 kc3 la lb lc
    refine wp_region_quiet_below (by kernel_rfl) (by kernel_rfl) ?_
    repeat (go_big_quiet_step (first
      | (go_at_call 16; with_reducible exact Calls.regrown_of (CAB.out _))
      | (go_at_call 16; with_reducible exact Calls.regrown_of (CBA.out _))))
    refine wpQuiet_nil ?_
    intro _ hw'
    obtain ⟨⟨nq, osq⟩, hw''⟩ := hw'
    subst hw''
    have Kz := below_regrown w2 nq osq
    have HB := Lib.hid (HB.out.trans (Kz.mono HB.out.size))
    have Ia := Lib.hid (Ia.out.below Kz Ia.out.lt)
    have Ib := Lib.hid (Ib.out.below Kz Ib.out.lt)
    have Ic := Lib.hid (Ic.out.below Kz Ic.out.lt)
    clear Kz qa0 qa1 qa2 qa3 qb0 qb1 qb2 qb3
    generalize Go.Sort.grow (redrawn w2 nq) osq = w3 at *
    have ka0 : w3.cell? ⟨w.heap.size, 0, none⟩ = some (.int .i64 a0) := Ia.out.cell' rfl
    have ka1 : w3.cell? ⟨w.heap.size, 1, none⟩ = some (.int .i64 a1) := Ia.out.cell' rfl
    have ka2 : w3.cell? ⟨w.heap.size, 2, none⟩ = some (.int .i64 a2) := Ia.out.cell' rfl
    have ka3 : w3.cell? ⟨w.heap.size, 3, none⟩ = some (.int .u64 a3) := Ia.out.cell' rfl
    have kb0 : w3.cell? ⟨w.heap.size + 1, 0, none⟩ = some (.int .i64 b0) := Ib.out.cell' rfl
    have kb1 : w3.cell? ⟨w.heap.size + 1, 1, none⟩ = some (.int .i64 b1) := Ib.out.cell' rfl
    have kb2 : w3.cell? ⟨w.heap.size + 1, 2, none⟩ = some (.int .i64 b2) := Ib.out.cell' rfl
    have kb3 : w3.cell? ⟨w.heap.size + 1, 3, none⟩ = some (.int .u64 b3) := Ib.out.cell' rfl
    have kc0 : w3.cell? ⟨w.heap.size + 1 + 1, 0, none⟩ = some (.int .i64 c0) := Ic.out.cell' rfl
    have kc1 : w3.cell? ⟨w.heap.size + 1 + 1, 1, none⟩ = some (.int .i64 c1) := Ic.out.cell' rfl
    have kc2 : w3.cell? ⟨w.heap.size + 1 + 1, 2, none⟩ = some (.int .i64 c2) := Ic.out.cell' rfl
    have kc3 : w3.cell? ⟨w.heap.size + 1 + 1, 3, none⟩ = some (.int .u64 c3) := Ic.out.cell' rfl
    have la := Ia.out.lt
    have lb := Ib.out.lt
    have lc := Ic.out.lt
    go_wp2_with fail
    refine (betterX a0 a1 a2 a3 b0 b1 b2 b3 true ab _).mono ?_
    rintro e w4 ⟨rfl, b4⟩
    have HB := Lib.hid (HB.out.trans (b4.mono HB.out.size))
    have Ia := Lib.hid (Ia.out.below b4 Ia.out.lt)
    have Ib := Lib.hid (Ib.out.below b4 Ib.out.lt)
    have Ic := Lib.hid (Ic.out.below b4 Ic.out.lt)
    clear b4 ka0 ka1 ka2 ka3 kb0 kb1 kb2 kb3 kc0 kc1 kc2 kc3 la lb lc
    have ka0 : w4.cell? ⟨w.heap.size, 0, none⟩ = some (.int .i64 a0) := Ia.out.cell' rfl
    have ka1 : w4.cell? ⟨w.heap.size, 1, none⟩ = some (.int .i64 a1) := Ia.out.cell' rfl
    have ka2 : w4.cell? ⟨w.heap.size, 2, none⟩ = some (.int .i64 a2) := Ia.out.cell' rfl
    have ka3 : w4.cell? ⟨w.heap.size, 3, none⟩ = some (.int .u64 a3) := Ia.out.cell' rfl
    have kb0 : w4.cell? ⟨w.heap.size + 1, 0, none⟩ = some (.int .i64 b0) := Ib.out.cell' rfl
    have kb1 : w4.cell? ⟨w.heap.size + 1, 1, none⟩ = some (.int .i64 b1) := Ib.out.cell' rfl
    have kb2 : w4.cell? ⟨w.heap.size + 1, 2, none⟩ = some (.int .i64 b2) := Ib.out.cell' rfl
    have kb3 : w4.cell? ⟨w.heap.size + 1, 3, none⟩ = some (.int .u64 b3) := Ib.out.cell' rfl
    have kc0 : w4.cell? ⟨w.heap.size + 1 + 1, 0, none⟩ = some (.int .i64 c0) := Ic.out.cell' rfl
    have kc1 : w4.cell? ⟨w.heap.size + 1 + 1, 1, none⟩ = some (.int .i64 c1) := Ic.out.cell' rfl
    have kc2 : w4.cell? ⟨w.heap.size + 1 + 1, 2, none⟩ = some (.int .i64 c2) := Ic.out.cell' rfl
    have kc3 : w4.cell? ⟨w.heap.size + 1 + 1, 3, none⟩ = some (.int .u64 c3) := Ic.out.cell' rfl
    have la := Ia.out.lt
    have lb := Ib.out.lt
    have lc := Ic.out.lt
    go_wp2_with fail
    cases bc : better (b0, b1, b2, b3) (c0, c1, c2, c3) with
    | false =>
      refine (betterX b0 b1 b2 b3 c0 c1 c2 c3 false bc _).mono ?_
      rintro e w5 ⟨rfl, b4⟩
      have HB := Lib.hid (HB.out.trans (b4.mono HB.out.size))
      have Ia := Lib.hid (Ia.out.below b4 Ia.out.lt)
      have Ib := Lib.hid (Ib.out.below b4 Ib.out.lt)
      have Ic := Lib.hid (Ic.out.below b4 Ic.out.lt)
      clear b4 ka0 ka1 ka2 ka3 kb0 kb1 kb2 kb3 kc0 kc1 kc2 kc3 la lb lc
      have ka0 : w5.cell? ⟨w.heap.size, 0, none⟩ = some (.int .i64 a0) := Ia.out.cell' rfl
      have ka1 : w5.cell? ⟨w.heap.size, 1, none⟩ = some (.int .i64 a1) := Ia.out.cell' rfl
      have ka2 : w5.cell? ⟨w.heap.size, 2, none⟩ = some (.int .i64 a2) := Ia.out.cell' rfl
      have ka3 : w5.cell? ⟨w.heap.size, 3, none⟩ = some (.int .u64 a3) := Ia.out.cell' rfl
      have kb0 : w5.cell? ⟨w.heap.size + 1, 0, none⟩ = some (.int .i64 b0) := Ib.out.cell' rfl
      have kb1 : w5.cell? ⟨w.heap.size + 1, 1, none⟩ = some (.int .i64 b1) := Ib.out.cell' rfl
      have kb2 : w5.cell? ⟨w.heap.size + 1, 2, none⟩ = some (.int .i64 b2) := Ib.out.cell' rfl
      have kb3 : w5.cell? ⟨w.heap.size + 1, 3, none⟩ = some (.int .u64 b3) := Ib.out.cell' rfl
      have kc0 : w5.cell? ⟨w.heap.size + 1 + 1, 0, none⟩ = some (.int .i64 c0) := Ic.out.cell' rfl
      have kc1 : w5.cell? ⟨w.heap.size + 1 + 1, 1, none⟩ = some (.int .i64 c1) := Ic.out.cell' rfl
      have kc2 : w5.cell? ⟨w.heap.size + 1 + 1, 2, none⟩ = some (.int .i64 c2) := Ic.out.cell' rfl
      have kc3 : w5.cell? ⟨w.heap.size + 1 + 1, 3, none⟩ = some (.int .u64 c3) := Ic.out.cell' rfl
      have la := Ia.out.lt
      have lb := Ib.out.lt
      have lc := Ic.out.lt
      go_wp2_with fail
      go_ret
      exact ⟨rfl, HB.out⟩
    | true =>
      have ac : better (a0, a1, a2, a3) (c0, c1, c2, c3) = true := better_trans ab bc
      refine (betterX b0 b1 b2 b3 c0 c1 c2 c3 true bc _).mono ?_
      rintro e w5 ⟨rfl, b4⟩
      have HB := Lib.hid (HB.out.trans (b4.mono HB.out.size))
      have Ia := Lib.hid (Ia.out.below b4 Ia.out.lt)
      have Ib := Lib.hid (Ib.out.below b4 Ib.out.lt)
      have Ic := Lib.hid (Ic.out.below b4 Ic.out.lt)
      clear b4 ka0 ka1 ka2 ka3 kb0 kb1 kb2 kb3 kc0 kc1 kc2 kc3 la lb lc
      have ka0 : w5.cell? ⟨w.heap.size, 0, none⟩ = some (.int .i64 a0) := Ia.out.cell' rfl
      have ka1 : w5.cell? ⟨w.heap.size, 1, none⟩ = some (.int .i64 a1) := Ia.out.cell' rfl
      have ka2 : w5.cell? ⟨w.heap.size, 2, none⟩ = some (.int .i64 a2) := Ia.out.cell' rfl
      have ka3 : w5.cell? ⟨w.heap.size, 3, none⟩ = some (.int .u64 a3) := Ia.out.cell' rfl
      have kb0 : w5.cell? ⟨w.heap.size + 1, 0, none⟩ = some (.int .i64 b0) := Ib.out.cell' rfl
      have kb1 : w5.cell? ⟨w.heap.size + 1, 1, none⟩ = some (.int .i64 b1) := Ib.out.cell' rfl
      have kb2 : w5.cell? ⟨w.heap.size + 1, 2, none⟩ = some (.int .i64 b2) := Ib.out.cell' rfl
      have kb3 : w5.cell? ⟨w.heap.size + 1, 3, none⟩ = some (.int .u64 b3) := Ib.out.cell' rfl
      have kc0 : w5.cell? ⟨w.heap.size + 1 + 1, 0, none⟩ = some (.int .i64 c0) := Ic.out.cell' rfl
      have kc1 : w5.cell? ⟨w.heap.size + 1 + 1, 1, none⟩ = some (.int .i64 c1) := Ic.out.cell' rfl
      have kc2 : w5.cell? ⟨w.heap.size + 1 + 1, 2, none⟩ = some (.int .i64 c2) := Ic.out.cell' rfl
      have kc3 : w5.cell? ⟨w.heap.size + 1 + 1, 3, none⟩ = some (.int .u64 c3) := Ic.out.cell' rfl
      have la := Ia.out.lt
      have lb := Ib.out.lt
      have lc := Ic.out.lt
      go_wp2_with fail
      refine (betterX a0 a1 a2 a3 c0 c1 c2 c3 true ac _).mono ?_
      rintro e w6 ⟨rfl, b4⟩
      have HB := Lib.hid (HB.out.trans (b4.mono HB.out.size))
      have Ia := Lib.hid (Ia.out.below b4 Ia.out.lt)
      have Ib := Lib.hid (Ib.out.below b4 Ib.out.lt)
      have Ic := Lib.hid (Ic.out.below b4 Ic.out.lt)
      clear b4 ka0 ka1 ka2 ka3 kb0 kb1 kb2 kb3 kc0 kc1 kc2 kc3 la lb lc
      have ka0 : w6.cell? ⟨w.heap.size, 0, none⟩ = some (.int .i64 a0) := Ia.out.cell' rfl
      have ka1 : w6.cell? ⟨w.heap.size, 1, none⟩ = some (.int .i64 a1) := Ia.out.cell' rfl
      have ka2 : w6.cell? ⟨w.heap.size, 2, none⟩ = some (.int .i64 a2) := Ia.out.cell' rfl
      have ka3 : w6.cell? ⟨w.heap.size, 3, none⟩ = some (.int .u64 a3) := Ia.out.cell' rfl
      have kb0 : w6.cell? ⟨w.heap.size + 1, 0, none⟩ = some (.int .i64 b0) := Ib.out.cell' rfl
      have kb1 : w6.cell? ⟨w.heap.size + 1, 1, none⟩ = some (.int .i64 b1) := Ib.out.cell' rfl
      have kb2 : w6.cell? ⟨w.heap.size + 1, 2, none⟩ = some (.int .i64 b2) := Ib.out.cell' rfl
      have kb3 : w6.cell? ⟨w.heap.size + 1, 3, none⟩ = some (.int .u64 b3) := Ib.out.cell' rfl
      have kc0 : w6.cell? ⟨w.heap.size + 1 + 1, 0, none⟩ = some (.int .i64 c0) := Ic.out.cell' rfl
      have kc1 : w6.cell? ⟨w.heap.size + 1 + 1, 1, none⟩ = some (.int .i64 c1) := Ic.out.cell' rfl
      have kc2 : w6.cell? ⟨w.heap.size + 1 + 1, 2, none⟩ = some (.int .i64 c2) := Ic.out.cell' rfl
      have kc3 : w6.cell? ⟨w.heap.size + 1 + 1, 3, none⟩ = some (.int .u64 c3) := Ic.out.cell' rfl
      have la := Ia.out.lt
      have lb := Ib.out.lt
      have lc := Ic.out.lt
      go_wp2_with fail
      go_ret
      exact ⟨rfl, HB.out⟩
  · have ab : better (a0, a1, a2, a3) (b0, b1, b2, b3) = false := by rw [Bool.eq_false_iff, ne_eq, better_iff]; simp only; omega
    have ba : better (b0, b1, b2, b3) (a0, a1, a2, a3) = true := by rw [better_iff]; simp only; omega
    have d1 : decide (b2 < a2) = false := by simp; omega
    have d2 : (a2 == b2) = true := by simpa using h.1
    have e2 : (a2 != b2) = false := by simpa using h.1
    have d3 : decide (a0 < b0) = false := by simp; omega
    have d4 : (a0 == b0) = false := by simp; omega
    have e4 : (a0 != b0) = true := by simp; omega
    have hh := Lib.hid h
    clear h
    have CAA := Lib.hid (betterX a0 a1 a2 a3 a0 a1 a2 a3 false (better_self _))
    have CAB := Lib.hid (betterX a0 a1 a2 a3 b0 b1 b2 b3 false ab)
    have CBA := Lib.hid (betterX b0 b1 b2 b3 a0 a1 a2 a3 true ba)
    go_wp2_with fail
    have qa0 := cell_regrown ka0
    have qa1 := cell_regrown ka1
    have qa2 := cell_regrown ka2
    have qa3 := cell_regrown ka3
    have qb0 := cell_regrown kb0
    have qb1 := cell_regrown kb1
    have qb2 := cell_regrown kb2
    have qb3 := cell_regrown kb3
    clear ka0 ka1 ka2 ka3 kb0 kb1 kb2 kb3 kc0 kc1 kc2 kc3 la lb lc
    refine wp_region_quiet_below (by kernel_rfl) (by kernel_rfl) ?_
    repeat (go_big_quiet_step (first
      | (go_at_call 16; with_reducible exact Calls.regrown_of (CAA.out _))
      | (go_at_call 16; with_reducible exact Calls.regrown_of (CAB.out _))))
    refine wpQuiet_nil ?_
    intro _ hw'
    obtain ⟨⟨nq, osq⟩, hw''⟩ := hw'
    subst hw''
    have Kz := below_regrown w1 nq osq
    have HB := Lib.hid (HB.out.trans (Kz.mono HB.out.size))
    have Ia := Lib.hid (Ia.out.below Kz Ia.out.lt)
    have Ib := Lib.hid (Ib.out.below Kz Ib.out.lt)
    have Ic := Lib.hid (Ic.out.below Kz Ic.out.lt)
    clear Kz qa0 qa1 qa2 qa3 qb0 qb1 qb2 qb3
    generalize Go.Sort.grow (redrawn w1 nq) osq = w2 at *
    have ka0 : w2.cell? ⟨w.heap.size, 0, none⟩ = some (.int .i64 a0) := Ia.out.cell' rfl
    have ka1 : w2.cell? ⟨w.heap.size, 1, none⟩ = some (.int .i64 a1) := Ia.out.cell' rfl
    have ka2 : w2.cell? ⟨w.heap.size, 2, none⟩ = some (.int .i64 a2) := Ia.out.cell' rfl
    have ka3 : w2.cell? ⟨w.heap.size, 3, none⟩ = some (.int .u64 a3) := Ia.out.cell' rfl
    have kb0 : w2.cell? ⟨w.heap.size + 1, 0, none⟩ = some (.int .i64 b0) := Ib.out.cell' rfl
    have kb1 : w2.cell? ⟨w.heap.size + 1, 1, none⟩ = some (.int .i64 b1) := Ib.out.cell' rfl
    have kb2 : w2.cell? ⟨w.heap.size + 1, 2, none⟩ = some (.int .i64 b2) := Ib.out.cell' rfl
    have kb3 : w2.cell? ⟨w.heap.size + 1, 3, none⟩ = some (.int .u64 b3) := Ib.out.cell' rfl
    have kc0 : w2.cell? ⟨w.heap.size + 1 + 1, 0, none⟩ = some (.int .i64 c0) := Ic.out.cell' rfl
    have kc1 : w2.cell? ⟨w.heap.size + 1 + 1, 1, none⟩ = some (.int .i64 c1) := Ic.out.cell' rfl
    have kc2 : w2.cell? ⟨w.heap.size + 1 + 1, 2, none⟩ = some (.int .i64 c2) := Ic.out.cell' rfl
    have kc3 : w2.cell? ⟨w.heap.size + 1 + 1, 3, none⟩ = some (.int .u64 c3) := Ic.out.cell' rfl
    have la := Ia.out.lt
    have lb := Ib.out.lt
    have lc := Ic.out.lt
    go_wp2_with fail
    have qa0 := cell_regrown ka0
    have qa1 := cell_regrown ka1
    have qa2 := cell_regrown ka2
    have qa3 := cell_regrown ka3
    have qb0 := cell_regrown kb0
    have qb1 := cell_regrown kb1
    have qb2 := cell_regrown kb2
    have qb3 := cell_regrown kb3
    clear ka0 ka1 ka2 ka3 kb0 kb1 kb2 kb3 kc0 kc1 kc2 kc3 la lb lc
    refine wp_region_quiet_below (by kernel_rfl) (by kernel_rfl) ?_
    repeat (go_big_quiet_step (first
      | (go_at_call 16; with_reducible exact Calls.regrown_of (CAB.out _))
      | (go_at_call 16; with_reducible exact Calls.regrown_of (CBA.out _))))
    refine wpQuiet_nil ?_
    intro _ hw'
    obtain ⟨⟨nq, osq⟩, hw''⟩ := hw'
    subst hw''
    have Kz := below_regrown w2 nq osq
    have HB := Lib.hid (HB.out.trans (Kz.mono HB.out.size))
    have Ia := Lib.hid (Ia.out.below Kz Ia.out.lt)
    have Ib := Lib.hid (Ib.out.below Kz Ib.out.lt)
    have Ic := Lib.hid (Ic.out.below Kz Ic.out.lt)
    clear Kz qa0 qa1 qa2 qa3 qb0 qb1 qb2 qb3
    generalize Go.Sort.grow (redrawn w2 nq) osq = w3 at *
    have ka0 : w3.cell? ⟨w.heap.size, 0, none⟩ = some (.int .i64 a0) := Ia.out.cell' rfl
    have ka1 : w3.cell? ⟨w.heap.size, 1, none⟩ = some (.int .i64 a1) := Ia.out.cell' rfl
    have ka2 : w3.cell? ⟨w.heap.size, 2, none⟩ = some (.int .i64 a2) := Ia.out.cell' rfl
    have ka3 : w3.cell? ⟨w.heap.size, 3, none⟩ = some (.int .u64 a3) := Ia.out.cell' rfl
    have kb0 : w3.cell? ⟨w.heap.size + 1, 0, none⟩ = some (.int .i64 b0) := Ib.out.cell' rfl
    have kb1 : w3.cell? ⟨w.heap.size + 1, 1, none⟩ = some (.int .i64 b1) := Ib.out.cell' rfl
    have kb2 : w3.cell? ⟨w.heap.size + 1, 2, none⟩ = some (.int .i64 b2) := Ib.out.cell' rfl
    have kb3 : w3.cell? ⟨w.heap.size + 1, 3, none⟩ = some (.int .u64 b3) := Ib.out.cell' rfl
    have kc0 : w3.cell? ⟨w.heap.size + 1 + 1, 0, none⟩ = some (.int .i64 c0) := Ic.out.cell' rfl
    have kc1 : w3.cell? ⟨w.heap.size + 1 + 1, 1, none⟩ = some (.int .i64 c1) := Ic.out.cell' rfl
    have kc2 : w3.cell? ⟨w.heap.size + 1 + 1, 2, none⟩ = some (.int .i64 c2) := Ic.out.cell' rfl
    have kc3 : w3.cell? ⟨w.heap.size + 1 + 1, 3, none⟩ = some (.int .u64 c3) := Ic.out.cell' rfl
    have la := Ia.out.lt
    have lb := Ib.out.lt
    have lc := Ic.out.lt
    go_wp2_with fail
    refine (betterX a0 a1 a2 a3 b0 b1 b2 b3 false ab _).mono ?_
    rintro e w4 ⟨rfl, b4⟩
    have HB := Lib.hid (HB.out.trans (b4.mono HB.out.size))
    have Ia := Lib.hid (Ia.out.below b4 Ia.out.lt)
    have Ib := Lib.hid (Ib.out.below b4 Ib.out.lt)
    have Ic := Lib.hid (Ic.out.below b4 Ic.out.lt)
    clear b4 ka0 ka1 ka2 ka3 kb0 kb1 kb2 kb3 kc0 kc1 kc2 kc3 la lb lc
    have ka0 : w4.cell? ⟨w.heap.size, 0, none⟩ = some (.int .i64 a0) := Ia.out.cell' rfl
    have ka1 : w4.cell? ⟨w.heap.size, 1, none⟩ = some (.int .i64 a1) := Ia.out.cell' rfl
    have ka2 : w4.cell? ⟨w.heap.size, 2, none⟩ = some (.int .i64 a2) := Ia.out.cell' rfl
    have ka3 : w4.cell? ⟨w.heap.size, 3, none⟩ = some (.int .u64 a3) := Ia.out.cell' rfl
    have kb0 : w4.cell? ⟨w.heap.size + 1, 0, none⟩ = some (.int .i64 b0) := Ib.out.cell' rfl
    have kb1 : w4.cell? ⟨w.heap.size + 1, 1, none⟩ = some (.int .i64 b1) := Ib.out.cell' rfl
    have kb2 : w4.cell? ⟨w.heap.size + 1, 2, none⟩ = some (.int .i64 b2) := Ib.out.cell' rfl
    have kb3 : w4.cell? ⟨w.heap.size + 1, 3, none⟩ = some (.int .u64 b3) := Ib.out.cell' rfl
    have kc0 : w4.cell? ⟨w.heap.size + 1 + 1, 0, none⟩ = some (.int .i64 c0) := Ic.out.cell' rfl
    have kc1 : w4.cell? ⟨w.heap.size + 1 + 1, 1, none⟩ = some (.int .i64 c1) := Ic.out.cell' rfl
    have kc2 : w4.cell? ⟨w.heap.size + 1 + 1, 2, none⟩ = some (.int .i64 c2) := Ic.out.cell' rfl
    have kc3 : w4.cell? ⟨w.heap.size + 1 + 1, 3, none⟩ = some (.int .u64 c3) := Ic.out.cell' rfl
    have la := Ia.out.lt
    have lb := Ib.out.lt
    have lc := Ic.out.lt
    go_wp2_with fail
    go_ret
    exact ⟨rfl, HB.out⟩
  · have ab : better (a0, a1, a2, a3) (b0, b1, b2, b3) = false := by rw [Bool.eq_false_iff, ne_eq, better_iff]; simp only; omega
    have d1 : decide (b2 < a2) = false := by simp; omega
    have d2 : (a2 == b2) = true := by simpa using h.1
    have e2 : (a2 != b2) = false := by simpa using h.1
    have d3 : decide (a0 < b0) = false := by simp; omega
    have d4 : (a0 == b0) = true := by simpa using h.2
    have e4 : (a0 != b0) = false := by simpa using h.2
    have hh := Lib.hid h
    clear h
    have CAA := Lib.hid (betterX a0 a1 a2 a3 a0 a1 a2 a3 false (better_self _))
    have CAB := Lib.hid (betterX a0 a1 a2 a3 b0 b1 b2 b3 false ab)
    go_wp2_with fail
    have qa0 := cell_regrown ka0
    have qa1 := cell_regrown ka1
    have qa2 := cell_regrown ka2
    have qa3 := cell_regrown ka3
    have qb0 := cell_regrown kb0
    have qb1 := cell_regrown kb1
    have qb2 := cell_regrown kb2
    have qb3 := cell_regrown kb3
    clear ka0 ka1 ka2 ka3 kb0 kb1 kb2 kb3 kc0 kc1 kc2 kc3 la lb lc
    refine wp_region_quiet_below (by kernel_rfl) (by kernel_rfl) ?_
    repeat (go_big_quiet_step (first
      | (go_at_call 16; with_reducible exact Calls.regrown_of (CAA.out _))
      | (go_at_call 16; with_reducible exact Calls.regrown_of (CAB.out _))))
    refine wpQuiet_nil ?_
    intro _ hw'
    obtain ⟨⟨nq, osq⟩, hw''⟩ := hw'
    subst hw''
    have Kz := below_regrown w1 nq osq
    have HB := Lib.hid (HB.out.trans (Kz.mono HB.out.size))
    have Ia := Lib.hid (Ia.out.below Kz Ia.out.lt)
    have Ib := Lib.hid (Ib.out.below Kz Ib.out.lt)
    have Ic := Lib.hid (Ic.out.below Kz Ic.out.lt)
    clear Kz qa0 qa1 qa2 qa3 qb0 qb1 qb2 qb3
    generalize Go.Sort.grow (redrawn w1 nq) osq = w2 at *
    have ka0 : w2.cell? ⟨w.heap.size, 0, none⟩ = some (.int .i64 a0) := Ia.out.cell' rfl
    have ka1 : w2.cell? ⟨w.heap.size, 1, none⟩ = some (.int .i64 a1) := Ia.out.cell' rfl
    have ka2 : w2.cell? ⟨w.heap.size, 2, none⟩ = some (.int .i64 a2) := Ia.out.cell' rfl
    have ka3 : w2.cell? ⟨w.heap.size, 3, none⟩ = some (.int .u64 a3) := Ia.out.cell' rfl
    have kb0 : w2.cell? ⟨w.heap.size + 1, 0, none⟩ = some (.int .i64 b0) := Ib.out.cell' rfl
    have kb1 : w2.cell? ⟨w.heap.size + 1, 1, none⟩ = some (.int .i64 b1) := Ib.out.cell' rfl
    have kb2 : w2.cell? ⟨w.heap.size + 1, 2, none⟩ = some (.int .i64 b2) := Ib.out.cell' rfl
    have kb3 : w2.cell? ⟨w.heap.size + 1, 3, none⟩ = some (.int .u64 b3) := Ib.out.cell' rfl
    have kc0 : w2.cell? ⟨w.heap.size + 1 + 1, 0, none⟩ = some (.int .i64 c0) := Ic.out.cell' rfl
    have kc1 : w2.cell? ⟨w.heap.size + 1 + 1, 1, none⟩ = some (.int .i64 c1) := Ic.out.cell' rfl
    have kc2 : w2.cell? ⟨w.heap.size + 1 + 1, 2, none⟩ = some (.int .i64 c2) := Ic.out.cell' rfl
    have kc3 : w2.cell? ⟨w.heap.size + 1 + 1, 3, none⟩ = some (.int .u64 c3) := Ic.out.cell' rfl
    have la := Ia.out.lt
    have lb := Ib.out.lt
    have lc := Ic.out.lt
    go_wp2_with fail
    have qa0 := cell_regrown ka0
    have qa1 := cell_regrown ka1
    have qa2 := cell_regrown ka2
    have qa3 := cell_regrown ka3
    have qb0 := cell_regrown kb0
    have qb1 := cell_regrown kb1
    have qb2 := cell_regrown kb2
    have qb3 := cell_regrown kb3
    clear ka0 ka1 ka2 ka3 kb0 kb1 kb2 kb3 kc0 kc1 kc2 kc3 la lb lc
    refine wp_region_quiet_below (by kernel_rfl) (by kernel_rfl) ?_
    repeat (go_big_quiet_step (first
      | (go_at_call 16; with_reducible exact Calls.regrown_of (CAB.out _))))
    refine wpQuiet_nil ?_
    intro _ hw'
    obtain ⟨⟨nq, osq⟩, hw''⟩ := hw'
    subst hw''
    have Kz := below_regrown w2 nq osq
    have HB := Lib.hid (HB.out.trans (Kz.mono HB.out.size))
    have Ia := Lib.hid (Ia.out.below Kz Ia.out.lt)
    have Ib := Lib.hid (Ib.out.below Kz Ib.out.lt)
    have Ic := Lib.hid (Ic.out.below Kz Ic.out.lt)
    clear Kz qa0 qa1 qa2 qa3 qb0 qb1 qb2 qb3
    generalize Go.Sort.grow (redrawn w2 nq) osq = w3 at *
    have ka0 : w3.cell? ⟨w.heap.size, 0, none⟩ = some (.int .i64 a0) := Ia.out.cell' rfl
    have ka1 : w3.cell? ⟨w.heap.size, 1, none⟩ = some (.int .i64 a1) := Ia.out.cell' rfl
    have ka2 : w3.cell? ⟨w.heap.size, 2, none⟩ = some (.int .i64 a2) := Ia.out.cell' rfl
    have ka3 : w3.cell? ⟨w.heap.size, 3, none⟩ = some (.int .u64 a3) := Ia.out.cell' rfl
    have kb0 : w3.cell? ⟨w.heap.size + 1, 0, none⟩ = some (.int .i64 b0) := Ib.out.cell' rfl
    have kb1 : w3.cell? ⟨w.heap.size + 1, 1, none⟩ = some (.int .i64 b1) := Ib.out.cell' rfl
    have kb2 : w3.cell? ⟨w.heap.size + 1, 2, none⟩ = some (.int .i64 b2) := Ib.out.cell' rfl
    have kb3 : w3.cell? ⟨w.heap.size + 1, 3, none⟩ = some (.int .u64 b3) := Ib.out.cell' rfl
    have kc0 : w3.cell? ⟨w.heap.size + 1 + 1, 0, none⟩ = some (.int .i64 c0) := Ic.out.cell' rfl
    have kc1 : w3.cell? ⟨w.heap.size + 1 + 1, 1, none⟩ = some (.int .i64 c1) := Ic.out.cell' rfl
    have kc2 : w3.cell? ⟨w.heap.size + 1 + 1, 2, none⟩ = some (.int .i64 c2) := Ic.out.cell' rfl
    have kc3 : w3.cell? ⟨w.heap.size + 1 + 1, 3, none⟩ = some (.int .u64 c3) := Ic.out.cell' rfl
    have la := Ia.out.lt
    have lb := Ib.out.lt
    have lc := Ic.out.lt
    go_wp2_with fail
    refine (betterX a0 a1 a2 a3 b0 b1 b2 b3 false ab _).mono ?_
    rintro e w4 ⟨rfl, b4⟩
    have HB := Lib.hid (HB.out.trans (b4.mono HB.out.size))
    have Ia := Lib.hid (Ia.out.below b4 Ia.out.lt)
    have Ib := Lib.hid (Ib.out.below b4 Ib.out.lt)
    have Ic := Lib.hid (Ic.out.below b4 Ic.out.lt)
    clear b4 ka0 ka1 ka2 ka3 kb0 kb1 kb2 kb3 kc0 kc1 kc2 kc3 la lb lc
    have ka0 : w4.cell? ⟨w.heap.size, 0, none⟩ = some (.int .i64 a0) := Ia.out.cell' rfl
    have ka1 : w4.cell? ⟨w.heap.size, 1, none⟩ = some (.int .i64 a1) := Ia.out.cell' rfl
    have ka2 : w4.cell? ⟨w.heap.size, 2, none⟩ = some (.int .i64 a2) := Ia.out.cell' rfl
    have ka3 : w4.cell? ⟨w.heap.size, 3, none⟩ = some (.int .u64 a3) := Ia.out.cell' rfl
    have kb0 : w4.cell? ⟨w.heap.size + 1, 0, none⟩ = some (.int .i64 b0) := Ib.out.cell' rfl
    have kb1 : w4.cell? ⟨w.heap.size + 1, 1, none⟩ = some (.int .i64 b1) := Ib.out.cell' rfl
    have kb2 : w4.cell? ⟨w.heap.size + 1, 2, none⟩ = some (.int .i64 b2) := Ib.out.cell' rfl
    have kb3 : w4.cell? ⟨w.heap.size + 1, 3, none⟩ = some (.int .u64 b3) := Ib.out.cell' rfl
    have kc0 : w4.cell? ⟨w.heap.size + 1 + 1, 0, none⟩ = some (.int .i64 c0) := Ic.out.cell' rfl
    have kc1 : w4.cell? ⟨w.heap.size + 1 + 1, 1, none⟩ = some (.int .i64 c1) := Ic.out.cell' rfl
    have kc2 : w4.cell? ⟨w.heap.size + 1 + 1, 2, none⟩ = some (.int .i64 c2) := Ic.out.cell' rfl
    have kc3 : w4.cell? ⟨w.heap.size + 1 + 1, 3, none⟩ = some (.int .u64 c3) := Ic.out.cell' rfl
    have la := Ia.out.lt
    have lb := Ib.out.lt
    have lc := Ic.out.lt
    go_wp2_with fail
    go_ret
    exact ⟨rfl, HB.out⟩

set_option maxRecDepth 100000 in
theorem lifted (os : Os) (started : os.Started) (H : Type) (enc : TypeId × Value → H) :
    ReturnsInHanded {} Try.checked os 4 .any (Rows.aggrBetterSpec.pre6 enc Try.prog Try.f4 Rows.aggrBetterRow.domain false) (Rows.aggrBetterSpec.post enc Try.prog Try.f4 false true false false) := by
  refine returnsInHanded_of_change (C := Try.checked) own started (by kernel_rfl) Try.func4
    (ChangeSpec.witness6 (enc := enc) (C := Try.checked) false ⟨#[], #[Law.V (0, 0, 0, 0), Law.V (0, 0, 0, 0), Law.V (0, 0, 0, 0)], []⟩ 8 (by kernel_rfl) (by kernel_rfl) (by kernel_rfl) (by kernel_rfl)) ?_
  intro W base args ds gs before hval0 hW hcnd _
  have hval : ∀ (j : Nat) t v, Try.f4.params[j]? = some t → args[j]? = some v → Value.okWide Try.prog W .any base t v := hval0
  have hW' := hW
  obtain ⟨p, q, hA0, hV, rfl, hfz, hnd⟩ := hW
  have hA : DataW.TrodAll enc Try.prog W 0 (fun _ => true) true Try.f4.params.toList args.toList ds p := hA0
  rw [Try.params4] at hA hval
  obtain ⟨v0, vs0, d0, ds0, p0, q0, hargs, rfl, rfl, h0, r0⟩ := trodAll_cons hA
  obtain ⟨v1, vs1, d1, ds1, p1, q1, rfl, rfl, rfl, h1, r1⟩ := trodAll_cons r0
  obtain ⟨v2, vs2, d2, ds2, p2, q2, rfl, rfl, rfl, h2, r2⟩ := trodAll_cons r1
  obtain ⟨rfl, rfl, rfl⟩ := trodAll_nil r2
  obtain rfl : args = #[v0, v1, v2] := by cases args; simp_all
  obtain ⟨s0, rfl⟩ := open_one (hval 0 30 v0 rfl rfl) h0
  obtain ⟨s1, rfl⟩ := open_one (hval 1 30 v1 rfl rfl) h1
  obtain ⟨s2, rfl⟩ := open_one (hval 2 30 v2 rfl rfl) h2
  refine (walk s0 s1 s2 W).mono fun e W' ⟨he, bel⟩ => ?_
  subst he
  exact ⟨_, rfl, Law.post_law laidOut (by kernel_rfl) (by kernel_rfl) Try.underlying4 rfl (fun ds h => by match ds, h with | [_, _, _], _ => rfl) hW' bel⟩

theorem proved : Rows.AggrBetterSaid :=
  OpenClaim.holds_of_wide 4 Try.f4 rfl rfl rfl rfl rfl rfl rfl ⟨rfl, rfl, rfl, rfl, rfl⟩ rfl rfl rfl rfl rfl (by kernel_rfl) Try.func4 (by kernel_rfl)
    (of_decide_eq_true (by kernel_rfl)) (by unfold Func.isWrapper; rw [if_neg (by decide +kernel)]; exact ⟨rfl, rfl⟩)
    (fun os started H enc _ => lifted os started H enc)
#print axioms proved
end Go.Proofs.Ytmcbjfmlncellaa.aggrBetter
