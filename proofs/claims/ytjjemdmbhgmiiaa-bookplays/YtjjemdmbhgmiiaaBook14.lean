/-
  What the reference's (layer 8) Same comes to.
-/
import Derived.Test.YtjjemdmbhgmiiaaBook11
import Derived.Lib.QuietBelow
import Derived.BigQuiet
namespace Go.Proofs.Ytjjemdmbhgmiiaa
open Go.RowKit
namespace Bk
open Go.Law Go.Proofs.Ytjjemdmbhgmiiaa.OmapB Door Go.Sort

set_option maxRecDepth 100000 in
set_option maxHeartbeats 8000000 in
theorem refSame8 {w : World} {A B : Option Addr} {c d : Nat} {a b : List (ByteArray × En)} {r : Bool} (hr : r = true ↔ a = b) (h : UsersAt w A a) (g : UsersAt w B b) (ha : Fit 900 a) (hb : Fit 900 b) :
    Calls Try.prog 16 #[.slice A a.length c, .slice B b.length d] w fun e w' => e = .returned (.bool r) ∧ Below w.heap.size w w' := by
  obtain ⟨xs, x1, x2, x3⟩ := h
  obtain ⟨ys, y1, y2, y3⟩ := g
  have hxl : a.length = xs.length := by rw [← x3, mapV_length]
  have hyl : b.length = ys.length := by rw [← y3, mapV_length]
  have HX := Lib.hid x1
  have HY := Lib.hid y1
  have HIX := Lib.hid x2
  have HIY := Lib.hid y2
  have HR : Hid (r = true ↔ mapV EnV.en xs = mapV EnV.en ys) := by rw [x3, y3]; exact hr
  have HLX : Hid (∀ q ∈ xs, q.2.ss.length ≤ 900) := fun q hq => ha.ses (q.1, q.2.en) (by rw [← x3]; exact List.mem_map.2 ⟨q, hq, rfl⟩)
  have HLY : Hid (∀ q ∈ ys, q.2.ss.length ≤ 900) := fun q hq => hb.ses (q.1, q.2.en) (by rw [← y3]; exact List.mem_map.2 ⟨q, hq, rfl⟩)
  have hla := ha.len
  have hlb := hb.len
  have HB := Lib.hid (Below.refl w.heap.size w)
  rw [hxl] at hla ⊢
  rw [hyl] at hlb ⊢
  clear x1 x2 x3 y1 y2 y3 hr ha hb hxl hyl
  by_cases hlen : xs.length = ys.length
  · have d0 : ((xs.length : Int) != (ys.length : Int)) = false := by simp; omega
    have HLE := Lib.hid hlen
    clear hlen
    go_enter Try.func16, Try.ntmps16
    go_wp2_with fail
    go_loopw [5] (fun i wr => ∃ j : Nat, j ≤ xs.length ∧ i = .int .i64 j ∧ mapV EnV.en (xs.take j) = mapV EnV.en (ys.take j) ∧ Below w.heap.size w wr) (fun i _ => xs.length - (intOf i).toNat)
    case atStart => exact ⟨0, Nat.zero_le _, rfl, by simp, Below.refl _ _⟩
    case round =>
      obtain ⟨j, hj, rfl, hta, hD⟩ := hrel
      have HD := Lib.hid hD
      have HTA := Lib.hid hta
      clear hta
      by_cases hlt : j < xs.length
      · have hlu : j < ys.length := by have := HLE.out; omega
        obtain ⟨b1, o1, rfl, _, l1, q0, q1, q2, q3, q4⟩ := ((HX.out.now hD).seq).us hlt
        obtain ⟨b2, o2, rfl, _, l2, p0, p1, p2, p3, p4⟩ := ((HY.out.now hD).seq).us hlu
        have HNX : Hid (((xs[j].1, xs[j].2.en) = (ys[j].1, ys[j].2.en)) → mapV EnV.en (xs.take (j + 1)) = mapV EnV.en (ys.take (j + 1))) := fun e => by
          rw [List.take_succ_eq_append_getElem hlt, List.take_succ_eq_append_getElem hlu]
          unfold mapV at *
          rw [List.map_append, List.map_append, HTA.out]
          simp only [List.map_cons, List.map_nil]
          rw [e]
        have HNO : Hid (((xs[j].1, xs[j].2.en) ≠ (ys[j].1, ys[j].2.en)) → r = false) := fun hne => by
          cases r with
          | false => rfl
          | true =>
            have e := HR.out.1 rfl
            refine absurd ?_ hne
            have h1 : (mapV EnV.en xs)[j]? = (mapV EnV.en ys)[j]? := by rw [e]
            unfold mapV at h1
            simpa [hlt, hlu] using h1
        have hix := (HIX.out _ (List.getElem_mem hlt))
        have hiy := (HIY.out _ (List.getElem_mem hlu))
        have hl1 := HLX.out _ (List.getElem_mem hlt)
        have hl2 := HLY.out _ (List.getElem_mem hlu)
        have HSX := Lib.hid (hix.2.now hD)
        have HSY := Lib.hid (hiy.2.now hD)
        have hn1 := hix.1
        have hn2 := hiy.1
        rw [hn1] at q1
        rw [hn2] at p1
        clear hix hiy hn1 hn2 hD
        generalize xs[j] = x at *
        generalize ys[j] = y at *
        obtain ⟨xn, xA, xm, xc, x0, x1, x2, xs'⟩ := x
        obtain ⟨yn, yA, ym, yc, y0, y1, y2, ys'⟩ := y
        simp only [EnV.en, EnV.told] at q0 q1 q2 q3 q4 p0 p1 p2 p3 p4 HSX HSY hl1 hl2 HNX HNO
        have HEQ : Hid (∀ r2, decide (xs' = ys') = r2 → ∀ d os, Calls Try.prog 38 #[.slice xA xs'.length xc, .slice yA ys'.length yc] (grow (redrawn wr d) os) fun e w' => e = .returned (.bool r2) ∧ Below (grow (redrawn wr d) os).heap.size (grow (redrawn wr d) os) w') := fun r2 hr2 d os =>
          refSame6 _ _ _ _ _ _ _ (HSX.out.now (below_regrown wr d os)).seq (HSY.out.now (below_regrown wr d os)).seq (by omega) (by omega) r2 hr2
        have Q0 := cell_regrown q0
        have Q1 := cell_regrown q1
        have Q2 := cell_regrown q2
        have Q3 := cell_regrown q3
        have Q4 := cell_regrown q4
        have P0 := cell_regrown p0
        have P1 := cell_regrown p1
        have P2 := cell_regrown p2
        have P3 := cell_regrown p3
        have P4 := cell_regrown p4
        clear q0 q1 q2 q3 q4 p0 p1 p2 p3 p4 HTA
        go_wp2_with fail
        by_cases hn : xn = yn
        · subst hn
          by_cases h0 : x0 = y0
          · have _u := 0
            clear _u
            by_cases h1 : x1 = y1
            · have _u := 0
              clear _u
              by_cases h2 : x2 = y2
              · have _u := 0
                clear _u
                by_cases h3 : xs' = ys'
                · have HE2 := Lib.hid (HEQ.out true (by simpa using h3))
                  have HZ := Lib.hid (HNX.out (by rw [h0, h1, h2, h3]))
                  have e0 : (x0 == y0) = true := by simpa using h0
                  have e1 : (x1 == y1) = true := by simpa using h1
                  have e2 : (x2 == y2) = true := by simpa using h2
                  clear h0 h1 h2 h3 HEQ HNX HNO
                  refine wp_region_quiet_below (by kernel_rfl) (by kernel_rfl) ?_
                  repeat (go_big_quiet_step ((go_at_call 38; with_reducible exact Calls.regrown_of (HE2.out _ _))))
                  refine wpQuiet_nil ?_
                  intro _ hw'
                  obtain ⟨⟨nq, osq⟩, hw''⟩ := hw'
                  subst hw''
                  have HBZ := Lib.hid (HD.out.trans ((below_regrown wr nq osq).mono HD.out.size))
                  generalize grow (redrawn wr nq) osq = wz at *
                  go_wp2_with fail
                  go_roundw
                  case rel => exact ⟨j + 1, by omega, by go_num, HZ.out, HBZ.out⟩
                  case measure => simp [intOf]; omega
                · have HE2 := Lib.hid (HEQ.out false (by simpa using h3))
                  have HF := Lib.hid (HNO.out (by intro e; simp only [Prod.mk.injEq] at e; exact h3 e.2.1))
                  have e0 : (x0 == y0) = true := by simpa using h0
                  have e1 : (x1 == y1) = true := by simpa using h1
                  have e2 : (x2 == y2) = true := by simpa using h2
                  clear h0 h1 h2 h3 HEQ HNX HNO
                  refine wp_region_quiet_below (by kernel_rfl) (by kernel_rfl) ?_
                  repeat (go_big_quiet_step ((go_at_call 38; with_reducible exact Calls.regrown_of (HE2.out _ _))))
                  refine wpQuiet_nil ?_
                  intro _ hw'
                  obtain ⟨⟨nq, osq⟩, hw''⟩ := hw'
                  subst hw''
                  have HBZ := Lib.hid (HD.out.trans ((below_regrown wr nq osq).mono HD.out.size))
                  generalize grow (redrawn wr nq) osq = wz at *
                  go_wp2_with fail
                  go_ret
                  exact ⟨by rw [HF.out]; rfl, HBZ.out⟩
              · have HF := Lib.hid (HNO.out (by intro e; simp only [Prod.mk.injEq] at e; exact h2 e.2.2.2.2))
                have e0 : (x0 == y0) = true := by simpa using h0
                have e1 : (x1 == y1) = true := by simpa using h1
                have e2 : (x2 == y2) = false := by simpa using h2
                clear HEQ HNX HNO h0 h1 h2
                refine wp_region_quiet_below (by kernel_rfl) (by kernel_rfl) ?_
                repeat (go_big_quiet_step (fail))
                refine wpQuiet_nil ?_
                intro _ hw'
                obtain ⟨⟨nq, osq⟩, hw''⟩ := hw'
                subst hw''
                have HBZ := Lib.hid (HD.out.trans ((below_regrown wr nq osq).mono HD.out.size))
                generalize grow (redrawn wr nq) osq = wz at *
                go_wp2_with fail
                go_ret
                exact ⟨by rw [HF.out]; rfl, HBZ.out⟩
            · have HF := Lib.hid (HNO.out (by intro e; simp only [Prod.mk.injEq] at e; exact h1 e.2.2.2.1))
              have e0 : (x0 == y0) = true := by simpa using h0
              have e1 : (x1 == y1) = false := by simpa using h1
              clear HEQ HNX HNO h0 h1
              refine wp_region_quiet_below (by kernel_rfl) (by kernel_rfl) ?_
              repeat (go_big_quiet_step (fail))
              refine wpQuiet_nil ?_
              intro _ hw'
              obtain ⟨⟨nq, osq⟩, hw''⟩ := hw'
              subst hw''
              have HBZ := Lib.hid (HD.out.trans ((below_regrown wr nq osq).mono HD.out.size))
              generalize grow (redrawn wr nq) osq = wz at *
              go_wp2_with fail
              go_ret
              exact ⟨by rw [HF.out]; rfl, HBZ.out⟩
          · have HF := Lib.hid (HNO.out (by intro e; simp only [Prod.mk.injEq] at e; exact h0 e.2.2.1))
            have e0 : (x0 == y0) = false := by simpa using h0
            clear HEQ HNX HNO h0
            refine wp_region_quiet_below (by kernel_rfl) (by kernel_rfl) ?_
            repeat (go_big_quiet_step (fail))
            refine wpQuiet_nil ?_
            intro _ hw'
            obtain ⟨⟨nq, osq⟩, hw''⟩ := hw'
            subst hw''
            have HBZ := Lib.hid (HD.out.trans ((below_regrown wr nq osq).mono HD.out.size))
            generalize grow (redrawn wr nq) osq = wz at *
            go_wp2_with fail
            go_ret
            exact ⟨by rw [HF.out]; rfl, HBZ.out⟩
        · have HF := Lib.hid (HNO.out (by intro e; simp only [Prod.mk.injEq] at e; exact hn e.1))
          have e9 : (xn.toList == yn.toList) = false := by simpa using fun e => hn (OmapB.ext e)
          clear HEQ HNX HNO hn
          refine wp_region_quiet_below (by kernel_rfl) (by kernel_rfl) ?_
          repeat (go_big_quiet_step (fail))
          refine wpQuiet_nil ?_
          intro _ hw'
          obtain ⟨⟨nq, osq⟩, hw''⟩ := hw'
          subst hw''
          have HBZ := Lib.hid (HD.out.trans ((below_regrown wr nq osq).mono HD.out.size))
          generalize grow (redrawn wr nq) osq = wz at *
          go_wp2_with fail
          go_ret
          exact ⟨by rw [HF.out]; rfl, HBZ.out⟩
      · have HT2 : Hid (r = true) := by
          refine HR.out.2 ?_
          have h1 := HTA.out
          rw [List.take_of_length_le (by omega), List.take_of_length_le (by have := HLE.out; omega)] at h1
          exact h1
        clear hD
        go_wp2_with fail
        go_ret
        exact ⟨by rw [HT2.out]; rfl, HD.out⟩
  · have d0 : ((xs.length : Int) != (ys.length : Int)) = true := by simp; omega
    have HF : Hid (r = false) := by
      show _ = _
      cases r with
      | false => rfl
      | true =>
        have e := congrArg List.length (HR.out.1 rfl)
        rw [mapV_length, mapV_length] at e
        exact absurd e hlen
    go_enter Try.func16, Try.ntmps16
    go_wp2_with fail
    go_ret
    exact ⟨by rw [HF.out]; rfl, HB.out⟩
end Bk
end Go.Proofs.Ytjjemdmbhgmiiaa
