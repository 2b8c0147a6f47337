/-
  What is wrong with a script (layer 12): Check, the reference's.
-/
import Derived.Test.YtlkbfnpncomifaaDoorOc04
namespace Go.Proofs.YtlkbfnpncomifaaDoor
open Go.RowKit Go.Lib
attribute [local go_sem] Oper.semAt_some
namespace Opx
open Go.Law
structure Cf where
  st : Int
  se : Int
  qu : Int
  wa : Int
  re : Int
  ep : Int
  sta : Int
abbrev Cf.val (q : Cf) : Value := .agg #[.int .i64 q.st, .int .i64 q.se, .int .i64 q.qu, .int .i64 q.wa, .int .i64 q.re, .int .u64 q.ep, .int .u64 q.sta]
def Cf.right (q : Cf) : Bool := (decide (1 ≤ q.st) && decide (q.st ≤ 8)) && ((decide (1 ≤ q.se) && decide (q.se ≤ 8)) && ((decide (1 ≤ q.qu) && decide (q.qu ≤ 16)) && ((decide (1 ≤ q.wa) && decide (q.wa ≤ 8)) && (decide (0 ≤ q.re) && decide (q.re ≤ 4)))))
set_option maxHeartbeats 400000 in
theorem within (n a b : Int) (r : Bool) (hr : (decide (a ≤ n) && decide (n ≤ b)) = r) (w : World) :
    Calls Tryd.prog 34 #[.int .i64 n, .int .i64 a, .int .i64 b] w fun e w' => e = .returned (.bool r) ∧ w = w' := by
  subst hr
  cases h1 : decide (a ≤ n) <;>
  · go_enter Tryd.func34, Tryd.ntmps34
    go_wp2
    go_ret
    exact ⟨by simp, rfl⟩
set_option maxRecDepth 100000 in
set_option maxHeartbeats 2000000 in
theorem right (q : Cf) (w : World) {r : Bool} (hr : q.right = r) : Calls Tryd.prog 26 #[q.val] w fun e w' => e = .returned (.bool r) ∧ Below w.heap.size w w' := by
  obtain ⟨st, se, qu, wa, re, ep, sta⟩ := q
  subst hr
  have bb := (Below.refl w.heap.size w).alloc (Nat.le_refl _) (.cells #[.int .i64 st, .int .i64 se, .int .i64 qu, .int .i64 wa, .int .i64 re, .int .u64 ep, .int .u64 sta] 27)
  have HB := Lib.hid bb
  clear bb
  unfold Cf.right
  simp only
  cases h0 : (decide ((1 : Int) ≤ st) && decide (st ≤ 8)) with
  | false =>
    go_enter Tryd.func26, Tryd.ntmps26
    go_wp2_with fail
    refine (within st 1 8 false h0 _).mono ?_
    rintro e w1 ⟨rfl, rfl⟩
    go_wp2_with fail
    go_ret
    exact ⟨rfl, HB.out⟩
  | true =>
    cases h1 : (decide ((1 : Int) ≤ se) && decide (se ≤ 8)) with
    | false =>
      go_enter Tryd.func26, Tryd.ntmps26
      go_wp2_with fail
      refine (within st 1 8 true h0 _).mono ?_
      rintro e w1 ⟨rfl, rfl⟩
      go_wp2_with fail
      refine (within se 1 8 false h1 _).mono ?_
      rintro e w2 ⟨rfl, rfl⟩
      go_wp2_with fail
      go_ret
      exact ⟨rfl, HB.out⟩
    | true =>
      cases h2 : (decide ((1 : Int) ≤ qu) && decide (qu ≤ 16)) with
      | false =>
        go_enter Tryd.func26, Tryd.ntmps26
        go_wp2_with fail
        refine (within st 1 8 true h0 _).mono ?_
        rintro e w1 ⟨rfl, rfl⟩
        go_wp2_with fail
        refine (within se 1 8 true h1 _).mono ?_
        rintro e w2 ⟨rfl, rfl⟩
        go_wp2_with fail
        refine (within qu 1 16 false h2 _).mono ?_
        rintro e w3 ⟨rfl, rfl⟩
        go_wp2_with fail
        go_ret
        exact ⟨rfl, HB.out⟩
      | true =>
        cases h3 : (decide ((1 : Int) ≤ wa) && decide (wa ≤ 8)) with
        | false =>
          go_enter Tryd.func26, Tryd.ntmps26
          go_wp2_with fail
          refine (within st 1 8 true h0 _).mono ?_
          rintro e w1 ⟨rfl, rfl⟩
          go_wp2_with fail
          refine (within se 1 8 true h1 _).mono ?_
          rintro e w2 ⟨rfl, rfl⟩
          go_wp2_with fail
          refine (within qu 1 16 true h2 _).mono ?_
          rintro e w3 ⟨rfl, rfl⟩
          go_wp2_with fail
          refine (within wa 1 8 false h3 _).mono ?_
          rintro e w4 ⟨rfl, rfl⟩
          go_wp2_with fail
          go_ret
          exact ⟨rfl, HB.out⟩
        | true =>
          cases h4 : (decide ((0 : Int) ≤ re) && decide (re ≤ 4)) with
          | false =>
            go_enter Tryd.func26, Tryd.ntmps26
            go_wp2_with fail
            refine (within st 1 8 true h0 _).mono ?_
            rintro e w1 ⟨rfl, rfl⟩
            go_wp2_with fail
            refine (within se 1 8 true h1 _).mono ?_
            rintro e w2 ⟨rfl, rfl⟩
            go_wp2_with fail
            refine (within qu 1 16 true h2 _).mono ?_
            rintro e w3 ⟨rfl, rfl⟩
            go_wp2_with fail
            refine (within wa 1 8 true h3 _).mono ?_
            rintro e w4 ⟨rfl, rfl⟩
            go_wp2_with fail
            refine (within re 0 4 false h4 _).mono ?_
            rintro e w5 ⟨rfl, rfl⟩
            go_wp2_with fail
            go_ret
            exact ⟨rfl, HB.out⟩
          | true =>
            go_enter Tryd.func26, Tryd.ntmps26
            go_wp2_with fail
            refine (within st 1 8 true h0 _).mono ?_
            rintro e w1 ⟨rfl, rfl⟩
            go_wp2_with fail
            refine (within se 1 8 true h1 _).mono ?_
            rintro e w2 ⟨rfl, rfl⟩
            go_wp2_with fail
            refine (within qu 1 16 true h2 _).mono ?_
            rintro e w3 ⟨rfl, rfl⟩
            go_wp2_with fail
            refine (within wa 1 8 true h3 _).mono ?_
            rintro e w4 ⟨rfl, rfl⟩
            go_wp2_with fail
            refine (within re 0 4 true h4 _).mono ?_
            rintro e w5 ⟨rfl, rfl⟩
            go_wp2_with fail
            go_ret
            exact ⟨rfl, HB.out⟩
set_option maxRecDepth 100000 in
set_option maxHeartbeats 4000000 in
theorem refRight (q : Cf) (w : World) {r : Bool} (hr : q.right = r) : Calls Tryd.prog 29 #[q.val] w fun e w' => e = .returned (.bool r) ∧ Below w.heap.size w w' := by
  obtain ⟨st, se, qu, wa, re, ep, sta⟩ := q
  subst hr
  have bb := (Below.refl w.heap.size w).alloc (Nat.le_refl _) (.cells #[.int .i64 st, .int .i64 se, .int .i64 qu, .int .i64 wa, .int .i64 re, .int .u64 ep, .int .u64 sta] 27)
  have HB := Lib.hid bb
  clear bb
  show Calls _ _ #[.agg #[.int .i64 st, .int .i64 se, .int .i64 qu, .int .i64 wa, .int .i64 re, .int .u64 ep, .int .u64 sta]] _ _
  by_cases k0 : 0 < st
  · have d0 : decide (0 < st) = true := decide_eq_true k0
    by_cases k1 : st < 9
    · have d1 : decide (st < 9) = true := decide_eq_true k1
      by_cases k2 : 0 < se
      · have d2 : decide (0 < se) = true := decide_eq_true k2
        by_cases k3 : se < 9
        · have d3 : decide (se < 9) = true := decide_eq_true k3
          by_cases k4 : 0 < qu
          · have d4 : decide (0 < qu) = true := decide_eq_true k4
            by_cases k5 : qu < 17
            · have d5 : decide (qu < 17) = true := decide_eq_true k5
              by_cases k6 : 0 < wa
              · have d6 : decide (0 < wa) = true := decide_eq_true k6
                by_cases k7 : wa < 9
                · have d7 : decide (wa < 9) = true := decide_eq_true k7
                  by_cases k8 : 0 ≤ re
                  · have d8 : decide (0 ≤ re) = true := decide_eq_true k8
                    by_cases k9 : re < 5
                    · have d9 : decide (re < 5) = true := decide_eq_true k9
                      have HQ : Hid (Cf.right ⟨st, se, qu, wa, re, ep, sta⟩ = true) := Lib.hid (by simp only [Cf.right, Bool.and_eq_true, decide_eq_true_eq]; omega)
                      rw [HQ.out]
                      go_enter Tryd.func29, Tryd.ntmps29
                      go_wp2_with fail
                      go_ret
                      exact ⟨rfl, HB.out⟩
                    · have d9 : decide (re < 5) = false := decide_eq_false k9
                      have HQ : Hid (Cf.right ⟨st, se, qu, wa, re, ep, sta⟩ = false) := Lib.hid (by rw [Bool.eq_false_iff]; simp only [ne_eq, Cf.right, Bool.and_eq_true, decide_eq_true_eq]; omega)
                      rw [HQ.out]
                      go_enter Tryd.func29, Tryd.ntmps29
                      go_wp2_with fail
                      go_ret
                      exact ⟨rfl, HB.out⟩
                  · have d8 : decide (0 ≤ re) = false := decide_eq_false k8
                    have HQ : Hid (Cf.right ⟨st, se, qu, wa, re, ep, sta⟩ = false) := Lib.hid (by rw [Bool.eq_false_iff]; simp only [ne_eq, Cf.right, Bool.and_eq_true, decide_eq_true_eq]; omega)
                    rw [HQ.out]
                    go_enter Tryd.func29, Tryd.ntmps29
                    go_wp2_with fail
                    go_ret
                    exact ⟨rfl, HB.out⟩
                · have d7 : decide (wa < 9) = false := decide_eq_false k7
                  have HQ : Hid (Cf.right ⟨st, se, qu, wa, re, ep, sta⟩ = false) := Lib.hid (by rw [Bool.eq_false_iff]; simp only [ne_eq, Cf.right, Bool.and_eq_true, decide_eq_true_eq]; omega)
                  rw [HQ.out]
                  go_enter Tryd.func29, Tryd.ntmps29
                  go_wp2_with fail
                  go_ret
                  exact ⟨rfl, HB.out⟩
              · have d6 : decide (0 < wa) = false := decide_eq_false k6
                have HQ : Hid (Cf.right ⟨st, se, qu, wa, re, ep, sta⟩ = false) := Lib.hid (by rw [Bool.eq_false_iff]; simp only [ne_eq, Cf.right, Bool.and_eq_true, decide_eq_true_eq]; omega)
                rw [HQ.out]
                go_enter Tryd.func29, Tryd.ntmps29
                go_wp2_with fail
                go_ret
                exact ⟨rfl, HB.out⟩
            · have d5 : decide (qu < 17) = false := decide_eq_false k5
              have HQ : Hid (Cf.right ⟨st, se, qu, wa, re, ep, sta⟩ = false) := Lib.hid (by rw [Bool.eq_false_iff]; simp only [ne_eq, Cf.right, Bool.and_eq_true, decide_eq_true_eq]; omega)
              rw [HQ.out]
              go_enter Tryd.func29, Tryd.ntmps29
              go_wp2_with fail
              go_ret
              exact ⟨rfl, HB.out⟩
          · have d4 : decide (0 < qu) = false := decide_eq_false k4
            have HQ : Hid (Cf.right ⟨st, se, qu, wa, re, ep, sta⟩ = false) := Lib.hid (by rw [Bool.eq_false_iff]; simp only [ne_eq, Cf.right, Bool.and_eq_true, decide_eq_true_eq]; omega)
            rw [HQ.out]
            go_enter Tryd.func29, Tryd.ntmps29
            go_wp2_with fail
            go_ret
            exact ⟨rfl, HB.out⟩
        · have d3 : decide (se < 9) = false := decide_eq_false k3
          have HQ : Hid (Cf.right ⟨st, se, qu, wa, re, ep, sta⟩ = false) := Lib.hid (by rw [Bool.eq_false_iff]; simp only [ne_eq, Cf.right, Bool.and_eq_true, decide_eq_true_eq]; omega)
          rw [HQ.out]
          go_enter Tryd.func29, Tryd.ntmps29
          go_wp2_with fail
          go_ret
          exact ⟨rfl, HB.out⟩
      · have d2 : decide (0 < se) = false := decide_eq_false k2
        have HQ : Hid (Cf.right ⟨st, se, qu, wa, re, ep, sta⟩ = false) := Lib.hid (by rw [Bool.eq_false_iff]; simp only [ne_eq, Cf.right, Bool.and_eq_true, decide_eq_true_eq]; omega)
        rw [HQ.out]
        go_enter Tryd.func29, Tryd.ntmps29
        go_wp2_with fail
        go_ret
        exact ⟨rfl, HB.out⟩
    · have d1 : decide (st < 9) = false := decide_eq_false k1
      have HQ : Hid (Cf.right ⟨st, se, qu, wa, re, ep, sta⟩ = false) := Lib.hid (by rw [Bool.eq_false_iff]; simp only [ne_eq, Cf.right, Bool.and_eq_true, decide_eq_true_eq]; omega)
      rw [HQ.out]
      go_enter Tryd.func29, Tryd.ntmps29
      go_wp2_with fail
      go_ret
      exact ⟨rfl, HB.out⟩
  · have d0 : decide (0 < st) = false := decide_eq_false k0
    have HQ : Hid (Cf.right ⟨st, se, qu, wa, re, ep, sta⟩ = false) := Lib.hid (by rw [Bool.eq_false_iff]; simp only [ne_eq, Cf.right, Bool.and_eq_true, decide_eq_true_eq]; omega)
    rw [HQ.out]
    go_enter Tryd.func29, Tryd.ntmps29
    go_wp2_with fail
    go_ret
    exact ⟨rfl, HB.out⟩
abbrev Ln := Option Addr × Nat × Nat
def sl (r : Ln) : Value := .slice r.1 r.2.1 r.2.2
def many (r : Ln) : Bool := decide (40 < r.2.1)
theorem tooMany (A : Option Addr) (n c : Nat) (w : World) {r : Bool} (hr : decide (40 < n) = r) : Calls Tryd.prog 28 #[.slice A n c] w fun e w' => e = .returned (.bool r) ∧ w = w' := by
  have hr' : decide ((40 : Int) < (n : Int)) = r := by rw [← hr]; exact decide_eq_decide.2 (by omega)
  clear hr
  cases r
  all_goals
    go_enter Tryd.func28, Tryd.ntmps28
    go_wp2_with fail
    go_ret
    exact ⟨rfl, rfl⟩
set_option maxRecDepth 100000 in
set_option maxHeartbeats 1600000 in
theorem indexFunc {w : World} {A : Option Addr} {vs : List Ln} {c : Nat} (hs : Seq w 0 w.heap.size A (vs.map sl)) (hl : vs.length ≤ maxLen) (hz : ∀ u ∈ vs, u.2.1 ≤ maxLen) :
    Calls Tryd.prog 35 #[.slice A vs.length c, .func (.func 28) #[] #[]] w fun e w' => (∃ i : Int, e = .returned (.int .i64 i) ∧ decide (0 ≤ i) = vs.any many) ∧ w = w' := by
  have HS := Lib.hid hs
  have HZ := Lib.hid hz
  unfold maxLen at hl
  clear hs hz
  go_enter Tryd.func35, Tryd.ntmps35
  go_wp2_with fail
  go_loop [8] (fun i => ∃ j : Nat, j ≤ vs.length ∧ i = .int .i64 j ∧ (vs.take j).any many = false) (fun i => vs.length - (RowKit.intOf i).toNat)
  case atStart => exact ⟨0, Nat.zero_le _, rfl, by simp⟩
  case round =>
    obtain ⟨j, hj, rfl, ha⟩ := hrel
    have HA := Lib.hid ha
    clear ha
    by_cases hlt : j < vs.length
    · obtain ⟨b, off, rfl, _, hb, c0⟩ := HS.out.at (i := j) (by simpa using hlt)
      rw [List.getElem_map] at c0
      have HT : Hid ((vs.take (j + 1)).any many = ((vs.take j).any many || many vs[j])) := by show _ = _; rw [List.take_succ_eq_append_getElem hlt, List.any_append]; simp
      have HM := Lib.hid (List.getElem_mem hlt)
      have HZ1 := Lib.hid (HZ.out _ HM.out)
      generalize vs[j] = u at *
      obtain ⟨A1, n1, c1⟩ := u
      have c0' : w.cell? ⟨b, off + j, none⟩ = some (.slice A1 n1 c1) := c0
      clear c0
      go_wp2_with fail
      cases hu : decide (40 < n1) with
      | true =>
        refine (tooMany A1 n1 c1 _ hu).mono ?_
        rintro e w' ⟨rfl, rfl⟩
        have HE : Hid (vs.any many = true) := by show _ = _; rw [List.any_eq_true]; exact ⟨_, HM.out, hu⟩
        go_wp2_with fail
        go_ret
        exact ⟨⟨(j : Int), rfl, by rw [HE.out]; simp⟩, rfl⟩
      | false =>
        refine (tooMany A1 n1 c1 _ hu).mono ?_
        rintro e w' ⟨rfl, rfl⟩
        go_wp2_with fail
        go_round
        case rel => exact ⟨j + 1, by omega, by go_num, by rw [HT.out, HA.out]; simpa [many] using hu⟩
        case measure => simp [RowKit.intOf]; omega
    · have e1 : vs.take j = vs := List.take_of_length_le (by omega)
      rw [e1] at HA
      go_wp2_with fail
      go_ret
      exact ⟨⟨-1, rfl, by rw [HA.out]; rfl⟩, rfl⟩
set_option maxRecDepth 100000 in
set_option maxHeartbeats 1600000 in
theorem contains {w : World} {A : Option Addr} {vs : List Ln} {c : Nat} (hs : Seq w 0 w.heap.size A (vs.map sl)) (hl : vs.length ≤ maxLen) (hz : ∀ u ∈ vs, u.2.1 ≤ maxLen) {r : Bool} (hr : vs.any many = r) :
    Calls Tryd.prog 27 #[.slice A vs.length c, .func (.func 28) #[] #[]] w fun e w' => e = .returned (.bool r) ∧ w = w' := by
  subst hr
  have HI := Lib.hid (indexFunc (c := c) hs hl hz)
  clear hs hz
  go_enter Tryd.func27, Tryd.ntmps27
  go_wp2_with fail
  refine HI.out.mono ?_
  rintro e w' ⟨⟨i, rfl, hi⟩, rfl⟩
  go_wp2_with fail
  go_ret
  exact ⟨by rw [← hi]; rfl, rfl⟩
def checkI (q : Cf) (vs : List Ln) (nK : Nat) : Int := if q.right = false ∨ vs.length = 0 then 1 else if 8 < vs.length ∨ 20000 < nK ∨ vs.any many = true then 7 else 0
set_option maxRecDepth 100000 in
set_option maxHeartbeats 4000000 in
theorem check (q : Cf) (C : Option Addr) (vs : List Ln) (cC : Nat) (K : Option Addr) (nK cK : Nat) (w : World) (hs : Seq w 0 w.heap.size C (vs.map sl)) (hl : vs.length ≤ maxLen) (hz : ∀ u ∈ vs, u.2.1 ≤ maxLen) (hK : nK ≤ maxLen) {r : Int} (hr : checkI q vs nK = r) :
    Calls Tryd.prog 17 #[.agg #[.int .i64 q.st, .int .i64 q.se, .int .i64 q.qu, .int .i64 q.wa, .int .i64 q.re, .int .u64 q.ep, .int .u64 q.sta, .slice C vs.length cC, .slice K nK cK]] w fun e w' => e = .returned (.int .i64 r) ∧ Below w.heap.size w w' := by
  have HR := Lib.hid hr
  clear hr
  obtain ⟨st, se, qu, wa, re, ep, sta⟩ := q
  simp only
  have bb := (Below.refl w.heap.size w).alloc (Nat.le_refl _) (.cells #[.int .i64 st, .int .i64 se, .int .i64 qu, .int .i64 wa, .int .i64 re, .int .u64 ep, .int .u64 sta, .slice C vs.length cC, .slice K nK cK] 31)
  have HX := Lib.hid (Is.new w 31 #[.int .i64 st, .int .i64 se, .int .i64 qu, .int .i64 wa, .int .i64 re, .int .u64 ep, .int .u64 sta, .slice C vs.length cC, .slice K nK cK] rfl)
  have HB := Lib.hid bb
  have HS := Lib.hid ((hs.below bb).more bb.size)
  have HZ := Lib.hid hz
  have HL := Lib.hid hl
  unfold maxLen at hl hK
  clear hs hz bb
  go_enter Tryd.func17, Tryd.ntmps17
  go_wp2_with fail
  generalize w.alloc (.cells #[.int .i64 st, .int .i64 se, .int .i64 qu, .int .i64 wa, .int .i64 re, .int .u64 ep, .int .u64 sta, .slice C vs.length cC, .slice K nK cK] 31) = w1 at *
  cases hq : Cf.right ⟨st, se, qu, wa, re, ep, sta⟩ with
  | false =>
    have HE : Hid (checkI ⟨st, se, qu, wa, re, ep, sta⟩ vs nK = 1) := Lib.hid (by unfold checkI; rw [if_pos (.inl hq)])
    refine (right ⟨st, se, qu, wa, re, ep, sta⟩ w1 hq).mono ?_
    rintro e w2 ⟨rfl, b2⟩
    have HB2 := Lib.hid (HB.out.trans (b2.mono HB.out.size))
    clear b2
    go_wp2_with fail
    go_ret
    exact ⟨by rw [← HR.out, HE.out]; rfl, HB2.out⟩
  | true =>
    refine (right ⟨st, se, qu, wa, re, ep, sta⟩ w1 hq).mono ?_
    rintro e w2 ⟨rfl, b2⟩
    have HB2 := Lib.hid (HB.out.trans (b2.mono HB.out.size))
    have HX2 := Lib.hid (HX.out.below b2 HX.out.lt)
    have HS2 := Lib.hid ((HS.out.below b2).more b2.size)
    clear b2 HX HS HB
    have x7 : w2.cell? ⟨w.heap.size, 7, none⟩ = some (.slice C vs.length cC) := HX2.out.cell' rfl
    have x8 : w2.cell? ⟨w.heap.size, 8, none⟩ = some (.slice K nK cK) := HX2.out.cell' rfl
    have lx := HX2.out.lt
    by_cases h0 : vs.length = 0
    · have d0 : ((vs.length : Int) == 0) = true := by rw [beq_iff_eq]; omega
      have HE : Hid (checkI ⟨st, se, qu, wa, re, ep, sta⟩ vs nK = 1) := Lib.hid (by unfold checkI; rw [if_pos (.inr h0)])
      clear h0
      go_wp2_with fail
      go_ret
      exact ⟨by rw [← HR.out, HE.out]; rfl, HB2.out⟩
    · have d0 : ((vs.length : Int) == 0) = false := by rw [beq_eq_false_iff_ne]; omega
      have HN : Hid (∀ b : Prop, (8 < vs.length ∨ 20000 < nK ∨ vs.any many = true) → checkI ⟨st, se, qu, wa, re, ep, sta⟩ vs nK = 7) := Lib.hid (fun _ h => by unfold checkI; rw [if_neg (fun h => h.elim (fun h => by rw [hq] at h; cases h) h0), if_pos h])
      by_cases h1 : 8 < vs.length
      · have d1 : decide ((8 : Int) < (vs.length : Int)) = true := by simp; omega
        go_wp2_with fail
        go_ret
        exact ⟨by rw [← HR.out, HN.out True (.inl h1)]; rfl, HB2.out⟩
      · have d1 : decide ((8 : Int) < (vs.length : Int)) = false := by simp; omega
        by_cases h2 : 20000 < nK
        · have d2 : decide ((20000 : Int) < (nK : Int)) = true := by simp; omega
          go_wp2_with fail
          go_ret
          exact ⟨by rw [← HR.out, HN.out True (.inr (.inl h2))]; rfl, HB2.out⟩
        · have d2 : decide ((20000 : Int) < (nK : Int)) = false := by simp; omega
          cases h3 : vs.any many with
          | true =>
            go_wp2_with fail
            refine (contains HS2.out HL.out HZ.out h3).mono ?_
            rintro e w3 ⟨rfl, rfl⟩
            go_wp2_with fail
            go_ret
            exact ⟨by rw [← HR.out, HN.out True (.inr (.inr h3))]; rfl, HB2.out⟩
          | false =>
            have HE : Hid (checkI ⟨st, se, qu, wa, re, ep, sta⟩ vs nK = 0) := Lib.hid (by unfold checkI; rw [if_neg (fun h => h.elim (fun h => by rw [hq] at h; cases h) h0), if_neg (fun h => h.elim h1 (fun h => h.elim h2 (fun h => by rw [h3] at h; cases h)))])
            go_wp2_with fail
            refine (contains HS2.out HL.out HZ.out h3).mono ?_
            rintro e w3 ⟨rfl, rfl⟩
            go_wp2_with fail
            go_ret
            exact ⟨by rw [← HR.out, HE.out]; rfl, HB2.out⟩
set_option maxRecDepth 100000 in
set_option maxHeartbeats 4000000 in
theorem refCheck (q : Cf) (C : Option Addr) (vs : List Ln) (cC : Nat) (K : Option Addr) (nK cK : Nat) (w : World) (hs : Seq w 0 w.heap.size C (vs.map sl)) (hl : vs.length ≤ maxLen) (hz : ∀ u ∈ vs, u.2.1 ≤ maxLen) (hK : nK ≤ maxLen) {r : Int} (hr : checkI q vs nK = r) :
    Calls Tryd.prog 18 #[.agg #[.int .i64 q.st, .int .i64 q.se, .int .i64 q.qu, .int .i64 q.wa, .int .i64 q.re, .int .u64 q.ep, .int .u64 q.sta, .slice C vs.length cC, .slice K nK cK]] w fun e w' => e = .returned (.int .i64 r) ∧ Below w.heap.size w w' := by
  have HR := Lib.hid hr
  clear hr
  obtain ⟨st, se, qu, wa, re, ep, sta⟩ := q
  simp only
  have bb := (Below.refl w.heap.size w).alloc (Nat.le_refl _) (.cells #[.int .i64 st, .int .i64 se, .int .i64 qu, .int .i64 wa, .int .i64 re, .int .u64 ep, .int .u64 sta, .slice C vs.length cC, .slice K nK cK] 31)
  have HX := Lib.hid (Is.new w 31 #[.int .i64 st, .int .i64 se, .int .i64 qu, .int .i64 wa, .int .i64 re, .int .u64 ep, .int .u64 sta, .slice C vs.length cC, .slice K nK cK] rfl)
  have HB := Lib.hid bb
  have HS := Lib.hid ((hs.below bb).more bb.size)
  have HZ := Lib.hid hz
  unfold maxLen at hl hK
  clear hs hz bb
  go_enter Tryd.func18, Tryd.ntmps18
  go_wp2_with fail
  generalize w.alloc (.cells #[.int .i64 st, .int .i64 se, .int .i64 qu, .int .i64 wa, .int .i64 re, .int .u64 ep, .int .u64 sta, .slice C vs.length cC, .slice K nK cK] 31) = w1 at *
  cases hq : Cf.right ⟨st, se, qu, wa, re, ep, sta⟩ with
  | false =>
    have HE : Hid (checkI ⟨st, se, qu, wa, re, ep, sta⟩ vs nK = 1) := Lib.hid (by unfold checkI; rw [if_pos (.inl hq)])
    refine (refRight ⟨st, se, qu, wa, re, ep, sta⟩ w1 hq).mono ?_
    rintro e w2 ⟨rfl, b2⟩
    have HB2 := Lib.hid (HB.out.trans (b2.mono HB.out.size))
    clear b2
    go_wp2_with fail
    go_ret
    exact ⟨by rw [← HR.out, HE.out]; rfl, HB2.out⟩
  | true =>
    refine (refRight ⟨st, se, qu, wa, re, ep, sta⟩ w1 hq).mono ?_
    rintro e w2 ⟨rfl, b2⟩
    have HB2 := Lib.hid (HB.out.trans (b2.mono HB.out.size))
    have HX2 := Lib.hid (HX.out.below b2 HX.out.lt)
    have HS2 := Lib.hid ((HS.out.below b2).more b2.size)
    clear b2 HX HS HB
    have x7 : w2.cell? ⟨w.heap.size, 7, none⟩ = some (.slice C vs.length cC) := HX2.out.cell' rfl
    have x8 : w2.cell? ⟨w.heap.size, 8, none⟩ = some (.slice K nK cK) := HX2.out.cell' rfl
    have lx := HX2.out.lt
    by_cases h0 : vs.length = 0
    · have d0 : ((vs.length : Int) == 0) = true := by rw [beq_iff_eq]; omega
      have HE : Hid (checkI ⟨st, se, qu, wa, re, ep, sta⟩ vs nK = 1) := Lib.hid (by unfold checkI; rw [if_pos (.inr h0)])
      clear h0
      go_wp2_with fail
      go_ret
      exact ⟨by rw [← HR.out, HE.out]; rfl, HB2.out⟩
    · have d0 : ((vs.length : Int) == 0) = false := by rw [beq_eq_false_iff_ne]; omega
      obtain ⟨L0, hL0⟩ : ∃ L0, (decide ((8 : Int) < (vs.length : Int)) || decide ((20000 : Int) < (nK : Int))) = L0 := ⟨_, rfl⟩
      have hN : checkI ⟨st, se, qu, wa, re, ep, sta⟩ vs nK = if (L0 || vs.any many) = true then 7 else 0 := by
        have hi : (8 < vs.length ∨ 20000 < nK ∨ vs.any many = true) ↔ (L0 || vs.any many) = true := by
          rw [← hL0]
          simp only [Bool.or_eq_true, decide_eq_true_eq]
          constructor
          · rintro (h | h | h)
            · exact .inl (.inl (by omega))
            · exact .inl (.inr (by omega))
            · exact .inr h
          · rintro ((h | h) | h)
            · exact .inl (by omega)
            · exact .inr (.inl (by omega))
            · exact .inr (.inr h)
        unfold checkI
        rw [if_neg (fun h => h.elim (fun h => by rw [hq] at h; cases h) h0)]
        by_cases h : (L0 || vs.any many) = true
        · rw [if_pos h, if_pos (hi.2 h)]
        · rw [if_neg h, if_neg (fun h' => h (hi.1 h'))]
      have HN := Lib.hid hN
      clear hN
      have HD : Hid (∀ b, decide ((8 : Int) < (vs.length : Int)) = b → (b = true ∧ L0 = true) ∨ (b = false ∧ decide ((20000 : Int) < (nK : Int)) = L0)) := Lib.hid (by
        intro b hb
        rw [hb] at hL0
        cases b
        · exact .inr ⟨rfl, by simpa using hL0⟩
        · exact .inl ⟨rfl, by simpa using hL0.symm⟩)
      clear hL0
      rcases HD.out _ rfl with ⟨hb, rfl⟩ | ⟨hb, hb2⟩
      · clear HD
        go_wp2_with fail
        go_loop [3, 4] (fun b3 i => ∃ j : Nat, j ≤ vs.length ∧ i = .int .i64 j ∧ b3 = .bool (true || (vs.take j).any many)) (fun _ i => vs.length - (RowKit.intOf i).toNat)
        case atStart => exact ⟨0, Nat.zero_le _, rfl, by simp⟩
        case round =>
          obtain ⟨j, hj, rfl, rfl⟩ := hrel
          by_cases hlt : j < vs.length
          · obtain ⟨b, off, rfl, _, hb, c0⟩ := HS2.out.at (i := j) (by simpa using hlt)
            rw [List.getElem_map] at c0
            have HT : Hid ((vs.take (j + 1)).any many = ((vs.take j).any many || many vs[j])) := by show _ = _; rw [List.take_succ_eq_append_getElem hlt, List.any_append]; simp
            have HZ1 := Lib.hid (HZ.out _ (List.getElem_mem hlt))
            have e1 : decide ((j : Int) < (vs.length : Int)) = true := by simp; omega
            generalize vs[j] = u at *
            obtain ⟨A1, n1, c1⟩ := u
            have c0' : w2.cell? ⟨b, off + j, none⟩ = some (.slice A1 n1 c1) := c0
            have hm : many (A1, n1, c1) = decide ((40 : Int) < (n1 : Int)) := decide_eq_decide.2 (by show 40 < n1 ↔ _; omega)
            have HM := Lib.hid hm
            clear c0 hm
            generalize hpr : (true || (vs.take j).any many) = pr
            have HPR := Lib.hid hpr
            clear hpr
            cases pr with
            | true =>
              go_wp2_with fail
              go_round
              case rel => exact ⟨j + 1, by omega, by go_num, by rw [HT.out, ← Bool.or_assoc, HPR.out]; rfl⟩
              case measure => simp [RowKit.intOf]; omega
            | false =>
              go_wp2_with fail
              go_round
              case rel => exact ⟨j + 1, by omega, by go_num, by rw [HT.out, ← Bool.or_assoc, HPR.out, HM.out]; rfl⟩
              case measure => simp [RowKit.intOf]; omega
          · obtain rfl : j = vs.length := by omega
            have e1 : decide ((vs.length : Int) < (vs.length : Int)) = false := by simp
            rw [List.take_of_length_le (Nat.le_refl _)]
            cases hfin : (true || vs.any many) with
            | true =>
              go_wp2_with fail
              go_ret
              exact ⟨by rw [← HR.out, HN.out, if_pos hfin]; rfl, HB2.out⟩
            | false =>
              go_wp2_with fail
              go_ret
              exact ⟨by rw [← HR.out, HN.out, if_neg (by rw [hfin]; decide)]; rfl, HB2.out⟩
      · clear HD
        go_wp2_with fail
        go_loop [3, 4] (fun b3 i => ∃ j : Nat, j ≤ vs.length ∧ i = .int .i64 j ∧ b3 = .bool (L0 || (vs.take j).any many)) (fun _ i => vs.length - (RowKit.intOf i).toNat)
        case atStart => exact ⟨0, Nat.zero_le _, rfl, by simp⟩
        case round =>
          obtain ⟨j, hj, rfl, rfl⟩ := hrel
          by_cases hlt : j < vs.length
          · obtain ⟨b, off, rfl, _, hb, c0⟩ := HS2.out.at (i := j) (by simpa using hlt)
            rw [List.getElem_map] at c0
            have HT : Hid ((vs.take (j + 1)).any many = ((vs.take j).any many || many vs[j])) := by show _ = _; rw [List.take_succ_eq_append_getElem hlt, List.any_append]; simp
            have HZ1 := Lib.hid (HZ.out _ (List.getElem_mem hlt))
            have e1 : decide ((j : Int) < (vs.length : Int)) = true := by simp; omega
            generalize vs[j] = u at *
            obtain ⟨A1, n1, c1⟩ := u
            have c0' : w2.cell? ⟨b, off + j, none⟩ = some (.slice A1 n1 c1) := c0
            have hm : many (A1, n1, c1) = decide ((40 : Int) < (n1 : Int)) := decide_eq_decide.2 (by show 40 < n1 ↔ _; omega)
            have HM := Lib.hid hm
            clear c0 hm
            generalize hpr : (L0 || (vs.take j).any many) = pr
            have HPR := Lib.hid hpr
            clear hpr
            cases pr with
            | true =>
              go_wp2_with fail
              go_round
              case rel => exact ⟨j + 1, by omega, by go_num, by rw [HT.out, ← Bool.or_assoc, HPR.out]; rfl⟩
              case measure => simp [RowKit.intOf]; omega
            | false =>
              go_wp2_with fail
              go_round
              case rel => exact ⟨j + 1, by omega, by go_num, by rw [HT.out, ← Bool.or_assoc, HPR.out, HM.out]; rfl⟩
              case measure => simp [RowKit.intOf]; omega
          · obtain rfl : j = vs.length := by omega
            have e1 : decide ((vs.length : Int) < (vs.length : Int)) = false := by simp
            rw [List.take_of_length_le (Nat.le_refl _)]
            cases hfin : (L0 || vs.any many) with
            | true =>
              go_wp2_with fail
              go_ret
              exact ⟨by rw [← HR.out, HN.out, if_pos hfin]; rfl, HB2.out⟩
            | false =>
              go_wp2_with fail
              go_ret
              exact ⟨by rw [← HR.out, HN.out, if_neg (by rw [hfin]; decide)]; rfl, HB2.out⟩
end Opx
end Go.Proofs.YtlkbfnpncomifaaDoor
