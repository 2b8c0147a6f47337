/-
  Are two replies the same? (Layer 10's reference, in both directions.)
-/
import Derived.Test.YtdfonlbbohnfhaaDoorOpSam
import Derived.Test.YtdfonlbbohnfhaaDoorOpDecR
import Derived.RegionTactic
import Derived.Lib.QuietBelow
namespace Go.Proofs.YtdfonlbbohnfhaaDoor
open Go.RowKit Go.Shelf
attribute [local go_sem] Oper.semAt_some
namespace Opx
open Go.Law
theorem no_ {p : Prop} [Decidable p] {r : Bool} (h : ¬ p) (e : decide p = r) : r = false := by rw [← e]; exact decide_eq_false h
set_option maxRecDepth 100000 in
set_option maxHeartbeats 8000000 in
theorem same10 (x y : RepW) (w : World) (hx : x.In w) (hy : y.In w) {r : Bool} (hr : decide (x.err = y.err ∧ x.lost = y.lost ∧ x.vs = y.vs ∧ x.es = y.es) = r) :
    Calls Tryd.prog 10 #[.agg x.box, .agg y.box] w fun e w' => e = .returned (.bool r) ∧ Below w.heap.size w w' := by
  obtain ⟨er, A, cA, vs, E, cE, es, lo⟩ := x
  obtain ⟨er', A', cA', vs', E', cE', es', lo'⟩ := y
  simp only at hr
  have lv := hx.lv
  have lv' := hy.lv
  have le := hx.le
  have le' := hy.le
  simp only at lv lv' le le'
  have b1 := ((Below.refl w.heap.size w).alloc (Nat.le_refl _) (.cells (RepW.box ⟨er, A, cA, vs, E, cE, es, lo⟩) 30)).alloc (by simp) (.cells (RepW.box ⟨er', A', cA', vs', E', cE', es', lo'⟩) 30)
  have HX : Hid (Is ((w.alloc (.cells (RepW.box ⟨er, A, cA, vs, E, cE, es, lo⟩) 30)).alloc (.cells (RepW.box ⟨er', A', cA', vs', E', cE', es', lo'⟩) 30)) w.heap.size 30 (RepW.box ⟨er, A, cA, vs, E, cE, es, lo⟩)) := Lib.hid ((Is.new w _ _ rfl).alloc _)
  have HY : Hid (Is ((w.alloc (.cells (RepW.box ⟨er, A, cA, vs, E, cE, es, lo⟩) 30)).alloc (.cells (RepW.box ⟨er', A', cA', vs', E', cE', es', lo'⟩) 30)) (w.heap.size + 1) 30 (RepW.box ⟨er', A', cA', vs', E', cE', es', lo'⟩)) := Lib.hid (Is.new _ _ _ (by simp))
  have HV := Lib.hid (hx.below b1).vs
  have HW := Lib.hid (hy.below b1).vs
  have HE := Lib.hid (hx.below b1).es
  have HF := Lib.hid (hy.below b1).es
  have HB := Lib.hid b1
  have HR := Lib.hid hr
  clear hx hy b1 hr
  show Calls _ _ #[.agg #[.int .i64 er, .slice A vs.length cA, .slice E es.length cE, .bool lo], .agg #[.int .i64 er', .slice A' vs'.length cA', .slice E' es'.length cE', .bool lo']] _ _
  by_cases h1 : er = er'
  rotate_left
  · have d1 : (er != er') = true := by simp [h1]
    have q : r = false := no_ (fun h => h1 h.1) HR.out
    subst q
    go_enter Tryd.func10, Tryd.ntmps10
    go_wp2_with fail
    go_ret
    exact ⟨rfl, HB.out⟩
  subst h1
  by_cases h2 : lo = lo'
  rotate_left
  · have q : r = false := no_ (fun h => h2 h.2.1) HR.out
    subst q
    cases lo <;> cases lo' <;> first | exact absurd rfl h2 | skip
    all_goals
      go_enter Tryd.func10, Tryd.ntmps10
      go_wp2_with fail
      go_ret
      exact ⟨rfl, HB.out⟩
  subst h2
  by_cases h3 : vs.length = vs'.length
  rotate_left
  · have d3 : ((vs.length : Int) != (vs'.length : Int)) = true := by simp; omega
    have q : r = false := no_ (fun h => h3 (by rw [h.2.2.1])) HR.out
    subst q
    go_enter Tryd.func10, Tryd.ntmps10
    go_wp2_with fail
    go_ret
    exact ⟨rfl, HB.out⟩
  have d3 : ((vs.length : Int) != (vs'.length : Int)) = false := by simp; omega
  have dlo : (lo != lo) = false := by cases lo <;> rfl
  have H3 := Lib.hid h3
  clear h3
  go_enter Tryd.func10, Tryd.ntmps10
  go_wp2_with fail
  generalize ((w.alloc (.cells #[.int .i64 er, .slice A vs.length cA, .slice E es.length cE, .bool lo] 30)).alloc (.cells #[.int .i64 er, .slice A' vs'.length cA', .slice E' es'.length cE', .bool lo] 30)) = w1 at *
  refine (same9 es es' E E' cE cE' w1 HE.out HF.out (by omega) (by omega) rfl).mono ?_
  rintro e w2 ⟨rfl, b2⟩
  have HX2 := Lib.hid (HX.out.below b2 HX.out.lt)
  have HY2 := Lib.hid (HY.out.below b2 HY.out.lt)
  have sz1 := HB.out.size
  have HB2 := Lib.hid (HB.out.trans (b2.mono sz1))
  have HV2 := Lib.hid ((HV.out.below b2).more b2.size)
  have HW2 := Lib.hid ((HW.out.below b2).more b2.size)
  have sz2 := b2.size
  clear b2 HX HY HB HV HW HE HF
  by_cases h4 : es = es'
  rotate_left
  · have d4 : decide (es = es') = false := decide_eq_false h4
    have q : r = false := no_ (fun h => h4 h.2.2.2) HR.out
    subst q
    rw [d4]
    go_wp2_with fail
    go_ret
    exact ⟨rfl, HB2.out⟩
  have d4 : decide (es = es') = true := decide_eq_true h4
  have HR2 : Hid (decide (vs = vs') = r) := Lib.hid (by rw [← HR.out]; simp [h4])
  clear HR h4
  rw [d4]
  go_wp2_with fail
  go_loopw [5] (fun vi wr => ∃ j : Nat, j ≤ vs.length ∧ vi = .int .i64 j ∧ vs.take j = vs'.take j ∧ Drawn w2 wr) (fun vi _ => vs.length - (intOf vi).toNat)
  case atStart => exact ⟨0, Nat.zero_le _, rfl, rfl, Drawn.refl w2⟩
  case round =>
    obtain ⟨j, hj, rfl, ht, q, rfl⟩ := hrel
    have HT := Lib.hid ht
    clear ht
    have x1 : w2.cell? ⟨w.heap.size, 1, none⟩ = some (.slice A vs.length cA) := HX2.out.cell' rfl
    have y1 : w2.cell? ⟨w.heap.size + 1, 1, none⟩ = some (.slice A' vs'.length cA') := HY2.out.cell' rfl
    have lx := HX2.out.lt
    have ly := HY2.out.lt
    by_cases hlt : j < vs.length
    · have d1 : decide ((j : Int) < (vs.length : Int)) = true := by simp; omega
      have hlt2 : j < vs'.length := by have := H3.out; omega
      have HTX := Lib.hid (List.take_succ_eq_append_getElem hlt)
      have HTY := Lib.hid (List.take_succ_eq_append_getElem hlt2)
      obtain ⟨b, o, hA, _, hb, c0, c1, c2⟩ := Seq.p3 HV2.out hlt
      obtain ⟨b', o', hB, _, hb', e0, e1, e2⟩ := Seq.p3 HW2.out hlt2
      subst hA hB
      generalize hp : vs[j] = p at *
      generalize hp' : vs'[j] = p' at *
      obtain ⟨p0, p1, p2⟩ := p
      obtain ⟨q0, q1, q2⟩ := p'
      simp only at c0 c1 c2 e0 e1 e2
      have lb : b < w2.heap.size := by omega
      have lb' : b' < w2.heap.size := by omega
      by_cases he : ((p0, p1, p2) : P3) = (q0, q1, q2)
      · simp only [Prod.mk.injEq] at he
        obtain ⟨rfl, rfl, rfl⟩ := he
        clear hp hp'
        go_wp2_with fail
        go_quiet (fail)
        go_wp2_with fail
        go_roundw
        case rel => exact ⟨j + 1, by omega, by go_num, by rw [HTX.out, HTY.out, HT.out], ⟨_, rfl⟩⟩
        case measure => simp [intOf]; omega
      · have HN : Hid (r = false) := Lib.hid (by rw [← HR2.out]; exact decide_eq_false fun h => he (by subst h; rw [← hp, ← hp']))
        have HE := Lib.hid he
        clear hp hp' HTX HTY HT he
        by_cases i0 : p0 = q0
        rotate_left
        · have n0 : (p0 == q0) = false := by simp [i0]
          have m0 : decide (p0 = q0) = false := decide_eq_false i0
          go_wp2_with fail
          go_quiet (fail)
          go_wp2_with fail
          go_ret
          exact ⟨by rw [HN.out]; rfl, Law.below_drewN (Law.below_drewN HB2.out _) _⟩
        subst i0
        by_cases i1 : p1 = q1
        rotate_left
        · have n1 : (p1 == q1) = false := by simp [i1]
          have m1 : decide (p1 = q1) = false := decide_eq_false i1
          go_wp2_with fail
          go_quiet (fail)
          go_wp2_with fail
          go_ret
          exact ⟨by rw [HN.out]; rfl, Law.below_drewN (Law.below_drewN HB2.out _) _⟩
        subst i1
        by_cases i2 : p2 = q2
        rotate_left
        · have n2 : (p2 == q2) = false := by simp [i2]
          have m2 : decide (p2 = q2) = false := decide_eq_false i2
          go_wp2_with fail
          go_quiet (fail)
          go_wp2_with fail
          go_ret
          exact ⟨by rw [HN.out]; rfl, Law.below_drewN (Law.below_drewN HB2.out _) _⟩
        subst i2
        exact absurd rfl HE.out
    · have d1 : decide ((j : Int) < (vs.length : Int)) = false := by simp; omega
      have HN : Hid (r = true) := Lib.hid (by rw [← HR2.out]; exact decide_eq_true (by have := HT.out; have h3 := H3.out; rw [List.take_of_length_le (by omega), List.take_of_length_le (by omega)] at this; exact this))
      go_wp2_with fail
      go_ret
      exact ⟨by rw [HN.out]; rfl, Law.below_drewN HB2.out _⟩
end Opx
end Go.Proofs.YtdfonlbbohnfhaaDoor
