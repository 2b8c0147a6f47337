/-
  BookSame: whatever the acts and the op, the statement's function returns true, and the arguments read as before. No condition.
-/
import Derived.Test.YtjjemdmbhgmiiaaBook10
import Derived.Test.YtjjemdmbhgmiiaaBook08
namespace Go.Proofs.Ytjjemdmbhgmiiaa.bookSame
open Go.ChangeShapes Go.WideShapes Go.ChangeAt Go.RowKit
open Go.Law Go.Proofs.Ytjjemdmbhgmiiaa.Bk Go.Proofs.Ytjjemdmbhgmiiaa.OmapB Door Go.Sort

set_option maxRecDepth 100000 in
set_option maxHeartbeats 8000000 in
theorem walk (l : List ActV) (A : Option Addr) (c : Nat) (q : OpV) (hg : q.Good) (w : World) (hs : Seq w 0 w.heap.size A (flatA l)) (hl : l.length ≤ maxLen) (hq : ∀ q ∈ l, q.Good) :
    Calls Try.prog 8 #[.slice A l.length c, q.val] w fun e w' => e = .returned (.bool true) ∧ Below w.heap.size w w' := by
  have HS := Lib.hid hs
  have HQ := Lib.hid hq
  have HL := Lib.hid hl
  have HB := Lib.hid (Below.refl w.heap.size w)
  have HUT := Lib.hid (ofwf hg.ttl)
  obtain ⟨kind, xu, id, st, pr, ttl, users⟩ := q
  simp only [OpV.val] at *
  have hxs := hg.user
  simp only at hxs
  clear hs hq hl hg
  go_enter Try.func8, Try.ntmps8
  go_wp2_with fail
  have HI0 := Lib.hid (Is.new w 33 #[.int .i64 kind, .string xu, .int .i64 id, .int .i64 st, .int .i64 pr, .int .u64 ttl, users] rfl)
  have bx := (Below.refl w.heap.size w).alloc (Nat.le_refl _) (.cells #[.int .i64 kind, .string xu, .int .i64 id, .int .i64 st, .int .i64 pr, .int .u64 ttl, users] 33)
  replace HS := Lib.hid ((HS.out.below bx).more bx.size)
  replace HB := Lib.hid (HB.out.trans (bx.mono HB.out.size))
  generalize w.alloc (.cells #[.int .i64 kind, .string xu, .int .i64 id, .int .i64 st, .int .i64 pr, .int .u64 ttl, users] 33) = w0 at *
  clear bx
  refine (awake _).mono ?_
  rintro e w1 ⟨rfl, b1⟩
  replace HS := Lib.hid ((HS.out.below b1).more b1.size)
  replace HB := Lib.hid (HB.out.trans (b1.mono HB.out.size))
  replace HI0 := Lib.hid (HI0.out.below b1 HI0.out.lt)
  clear b1
  go_wp2_with fail
  refine (long_ l A c _ HS.out HL.out HQ.out).mono ?_
  rintro e w' ⟨rfl, rfl⟩
  have c1 := HI0.out.cell' (i := 1) rfl
  cases hlong : longB l with
  | true =>
    go_wp2_with fail
    refine (awake _).mono ?_
    rintro e w2 ⟨rfl, b1⟩
    replace HB := Lib.hid (HB.out.trans (b1.mono HB.out.size))
    clear b1
    go_wp2_with fail
    go_ret
    exact ⟨rfl, HB.out⟩
  | false =>
    by_cases hx : 100 < xu.size
    · have d2 : decide ((100 : Int) < (xu.size : Int)) = true := by simp; omega
      go_wp2_with fail
      refine (awake _).mono ?_
      rintro e w2 ⟨rfl, b1⟩
      replace HB := Lib.hid (HB.out.trans (b1.mono HB.out.size))
      clear b1
      go_wp2_with fail
      go_ret
      exact ⟨rfl, HB.out⟩
    have d2 : decide ((100 : Int) < (xu.size : Int)) = false := by simp; omega
    have hl2 := long_le hlong
    have HMF := Lib.hid (made_fit 4 l HQ.out)
    clear hlong
    go_wp2_with fail
    refine (made_ l A c 4 _ HS.out hl2 HQ.out).mono ?_
    rintro e w2 ⟨p2, rfl, k2, b1⟩
    replace HB := Lib.hid (HB.out.trans (b1.mono HB.out.size))
    replace HI0 := Lib.hid (HI0.out.below b1 HI0.out.lt)
    replace HS := Lib.hid ((HS.out.below b1).more b1.size)
    have HK := Lib.hid k2
    clear b1 k2 c1
    go_wp2_with fail
    have HI2 := Lib.hid (Is.new w2 27 #[.pointer p2] rfl)
    have bx := (Below.refl w2.heap.size w2).alloc (Nat.le_refl _) (.cells #[.pointer p2] 27)
    replace HB := Lib.hid (HB.out.trans (bx.mono HB.out.size))
    replace HK := Lib.hid (HK.out.now bx)
    replace HI0 := Lib.hid (HI0.out.below bx HI0.out.lt)
    replace HS := Lib.hid ((HS.out.below bx).more bx.size)
    generalize w2.alloc (.cells #[.pointer p2] 27) = w3 at *
    clear bx
    refine (made_ l A c 4 _ HS.out hl2 HQ.out).mono ?_
    rintro e w4 ⟨p4, rfl, k4, b1⟩
    replace HB := Lib.hid (HB.out.trans (b1.mono HB.out.size))
    replace HI0 := Lib.hid (HI0.out.below b1 HI0.out.lt)
    replace HI2 := Lib.hid (HI2.out.below b1 HI2.out.lt)
    replace HK := Lib.hid (HK.out.now b1)
    have HK4 := Lib.hid k4
    clear b1 k4 HS
    have HF := Lib.hid (HMF.out.1.more hl2)
    have HUN := Lib.hid HMF.out.2
    clear HMF
    generalize madeB 4 l = sx at *
    obtain ⟨sb, sn⟩ := sx
    simp only at HK HK4 HF HUN
    have hsl := HF.out.len
    have hsu := HF.out.of xu
    have z2 := HI2.out.cell' (i := 0) rfl
    have l2 := HI2.out.lt
    go_wp2_with fail
    have HI4 := Lib.hid (Is.new w4 27 #[.pointer p4] rfl)
    have bx := (Below.refl w4.heap.size w4).alloc (Nat.le_refl _) (.cells #[.pointer p4] 27)
    replace HB := Lib.hid (HB.out.trans (bx.mono HB.out.size))
    replace HK := Lib.hid (HK.out.now bx)
    replace HK4 := Lib.hid (HK4.out.now bx)
    replace HI0 := Lib.hid (HI0.out.below bx HI0.out.lt)
    replace HI2 := Lib.hid (HI2.out.below bx HI2.out.lt)
    generalize w4.alloc (.cells #[.pointer p4] 27) = w5 at *
    clear bx
    clear z2 l2
    refine (same (r := true) (by simp) HK.out HK4.out (HF.out.more (by omega)) (HF.out.more (by omega))).mono ?_
    rintro e w6 ⟨rfl, b1⟩
    replace HB := Lib.hid (HB.out.trans (b1.mono HB.out.size))
    replace HI0 := Lib.hid (HI0.out.below b1 HI0.out.lt)
    replace HI4 := Lib.hid (HI4.out.below b1 HI4.out.lt)
    replace HK4 := Lib.hid (HK4.out.now b1)
    clear b1 HK HI2
    have c0 := HI0.out.cell' (i := 0) rfl
    have c1 := HI0.out.cell' (i := 1) rfl
    have c2 := HI0.out.cell' (i := 2) rfl
    have c3 := HI0.out.cell' (i := 3) rfl
    have c4 := HI0.out.cell' (i := 4) rfl
    have c5 := HI0.out.cell' (i := 5) rfl
    have c6 := HI0.out.cell' (i := 6) rfl
    have z4 := HI4.out.cell' (i := 0) rfl
    go_wp2_with fail
    refine (write ⟨kind, xu, id, st, pr, ttl, users⟩ sn 4 HUN.out HUT.out HK4.out HF.out.book (by simp only; omega) (by omega)).mono ?_
    rintro e w7 ⟨p7, A7, c7, rfl, k7, q7, b1⟩
    replace HB := Lib.hid (HB.out.trans (b1.mono HB.out.size))
    replace HI0 := Lib.hid (HI0.out.below b1 HI0.out.lt)
    replace HI4 := Lib.hid (HI4.out.below b1 HI4.out.lt)
    replace HK4 := Lib.hid (HK4.out.now b1)
    have HK7 := Lib.hid k7
    clear b1 k7 q7 c0 c1 c2 c3 c4 c5 c6 z4
    have HFW := Lib.hid (HF.out.write (q := ⟨kind, xu, id, st, pr, ttl, users⟩) (now := sn) (most := 4))
    have HSS7 : Hid (sesK xu (wrB ⟨kind, xu, id, st, pr, ttl, users⟩ sn 4 sb) = wrS ⟨kind, xu, id, st, pr, ttl, users⟩ sn 4 sb) := ses_become_same lt xu _ sn sb
    have HTT7 : Hid (toldK xu (wrB ⟨kind, xu, id, st, pr, ttl, users⟩ sn 4 sb) = presS sn (wrS ⟨kind, xu, id, st, pr, ttl, users⟩ sn 4 sb)) := told_become_same lt xu _ sn sb
    have HBS : Hid (wrB ⟨kind, xu, id, st, pr, ttl, users⟩ sn 4 sb = sb ↔ (sesK xu sb = wrS ⟨kind, xu, id, st, pr, ttl, users⟩ sn 4 sb ∧ toldK xu sb = presS sn (wrS ⟨kind, xu, id, st, pr, ttl, users⟩ sn 4 sb))) := become_same lt tri HF.out.book (wrS_up HF.out.book)
    have hql := wrS_le (q := ⟨kind, xu, id, st, pr, ttl, users⟩) (now := sn) (most := 4) HF.out
    generalize wrS ⟨kind, xu, id, st, pr, ttl, users⟩ sn 4 sb = qs at *
    generalize wrB ⟨kind, xu, id, st, pr, ttl, users⟩ sn 4 sb = cb at *
    generalize wrC ⟨kind, xu, id, st, pr, ttl, users⟩ sn 4 sb = cc at *
    generalize wrE ⟨kind, xu, id, st, pr, ttl, users⟩ sn 4 sb = ce at *
    obtain ⟨t0, t1, t2, ht⟩ : ∃ t0 t1 t2, toldK xu sb = (t0, t1, t2) := ⟨_, _, _, rfl⟩
    obtain ⟨s0, s1, s2, hs⟩ : ∃ s0 s1 s2, presS sn qs = (s0, s1, s2) := ⟨_, _, _, rfl⟩
    obtain ⟨ps, hps⟩ : ∃ ps, sesK xu sb = ps := ⟨_, rfl⟩
    rw [hs] at HTT7
    rw [hps, ht, hs] at HBS
    rw [hps] at hsu
    have HPS := Lib.hid hps
    have HTT := Lib.hid ht
    clear hs hps ht
    have x1 := HI0.out.cell' (i := 1) rfl
    have lx := HI0.out.lt
    have z4 := HI4.out.cell' (i := 0) rfl
    have lz := HI4.out.lt
    go_wp2_with fail
    have HI7 := Lib.hid (Is.new w7 27 #[.pointer p7] rfl)
    have bx := (Below.refl w7.heap.size w7).alloc (Nat.le_refl _) (.cells #[.pointer p7] 27)
    replace HB := Lib.hid (HB.out.trans (bx.mono HB.out.size))
    replace HI0 := Lib.hid (HI0.out.below bx HI0.out.lt)
    replace HI4 := Lib.hid (HI4.out.below bx HI4.out.lt)
    replace HK4 := Lib.hid (HK4.out.now bx)
    replace HK7 := Lib.hid (HK7.out.now bx)
    generalize w7.alloc (.cells #[.pointer p7] 27) = w8 at *
    clear bx
    refine (get xu HPS.out HTT.out rfl HK4.out HF.out.book.1).mono ?_
    rintro e w9 ⟨A9, c9, rfl, sq, b1⟩
    replace HB := Lib.hid (HB.out.trans (b1.mono HB.out.size))
    replace HI0 := Lib.hid (HI0.out.below b1 HI0.out.lt)
    replace HI4 := Lib.hid (HI4.out.below b1 HI4.out.lt)
    replace HI7 := Lib.hid (HI7.out.below b1 HI7.out.lt)
    replace HK4 := Lib.hid (HK4.out.now b1)
    replace HK7 := Lib.hid (HK7.out.now b1)
    have HSP := Lib.hid sq
    clear b1 sq x1 lx z4 lz
    have x1 := HI0.out.cell' (i := 1) rfl
    have lx := HI0.out.lt
    have z7 := HI7.out.cell' (i := 0) rfl
    have lz := HI7.out.lt
    go_wp2_with fail
    have HIP := Lib.hid (Is.new w9 70 #[.slice A9 ps.length c9, .int .i64 t0, .int .i64 t1, .int .i64 t2] rfl)
    have bx := (Below.refl w9.heap.size w9).alloc (Nat.le_refl _) (.cells #[.slice A9 ps.length c9, .int .i64 t0, .int .i64 t1, .int .i64 t2] 70)
    replace HB := Lib.hid (HB.out.trans (bx.mono HB.out.size))
    replace HI0 := Lib.hid (HI0.out.below bx HI0.out.lt)
    replace HI4 := Lib.hid (HI4.out.below bx HI4.out.lt)
    replace HI7 := Lib.hid (HI7.out.below bx HI7.out.lt)
    replace HK4 := Lib.hid (HK4.out.now bx)
    replace HK7 := Lib.hid (HK7.out.now bx)
    replace HSP := Lib.hid (HSP.out.now bx)
    generalize w9.alloc (.cells #[.slice A9 ps.length c9, .int .i64 t0, .int .i64 t1, .int .i64 t2] 70) = w10 at *
    clear bx
    refine (get xu HSS7.out HTT7.out rfl HK7.out HFW.out.book.1).mono ?_
    rintro e w11 ⟨A11, c11, rfl, sq, b1⟩
    replace HB := Lib.hid (HB.out.trans (b1.mono HB.out.size))
    replace HI4 := Lib.hid (HI4.out.below b1 HI4.out.lt)
    replace HI7 := Lib.hid (HI7.out.below b1 HI7.out.lt)
    replace HIP := Lib.hid (HIP.out.below b1 HIP.out.lt)
    replace HK4 := Lib.hid (HK4.out.now b1)
    replace HK7 := Lib.hid (HK7.out.now b1)
    replace HSP := Lib.hid (HSP.out.now b1)
    have HSQ := Lib.hid sq
    clear b1 sq x1 lx z7 lz HI0
    have lp := HIP.out.lt
    have y0 := HIP.out.cell' (i := 0) rfl
    have y1 := HIP.out.cell' (i := 1) rfl
    have y2 := HIP.out.cell' (i := 2) rfl
    have y3 := HIP.out.cell' (i := 3) rfl
    go_upto_region 10 with (fail)
    have HIQ := Lib.hid (Is.new w11 70 #[.slice A11 qs.length c11, .int .i64 s0, .int .i64 s1, .int .i64 s2] rfl)
    have bx := (Below.refl w11.heap.size w11).alloc (Nat.le_refl _) (.cells #[.slice A11 qs.length c11, .int .i64 s0, .int .i64 s1, .int .i64 s2] 70)
    replace HB := Lib.hid (HB.out.trans (bx.mono HB.out.size))
    replace HI4 := Lib.hid (HI4.out.below bx HI4.out.lt)
    replace HI7 := Lib.hid (HI7.out.below bx HI7.out.lt)
    replace HIP := Lib.hid (HIP.out.below bx HIP.out.lt)
    replace HK4 := Lib.hid (HK4.out.now bx)
    replace HK7 := Lib.hid (HK7.out.now bx)
    replace HSP := Lib.hid (HSP.out.now bx)
    replace HSQ := Lib.hid (HSQ.out.now bx)
    generalize w11.alloc (.cells #[.slice A11 qs.length c11, .int .i64 s0, .int .i64 s1, .int .i64 s2] 70) = w12 at *
    clear bx
    clear lp y0 y1 y2 y3
    go_cut [16] (fun v wx => ∃ s : Bool, v = .bool s ∧ (s = true ↔ (ps.length = qs.length ∧ (t0, t1, t2) = (s0, s1, s2))) ∧ wx = w12)
    case first =>
      have y0 := HIP.out.cell' (i := 0) rfl
      have y1 := HIP.out.cell' (i := 1) rfl
      have y2 := HIP.out.cell' (i := 2) rfl
      have y3 := HIP.out.cell' (i := 3) rfl
      have x0 := HIQ.out.cell' (i := 0) rfl
      have x1 := HIQ.out.cell' (i := 1) rfl
      have x2 := HIQ.out.cell' (i := 2) rfl
      have x3 := HIQ.out.cell' (i := 3) rfl
      by_cases hlen : ps.length = qs.length
      · have d0 : ((ps.length : Int) == (qs.length : Int)) = true := by simp; omega
        have HLE := Lib.hid hlen
        clear hlen
        have HIF : Hid (((t0 == s0 && (t1 == s1 && t2 == s2)) = true ↔ (ps.length = qs.length ∧ (t0, t1, t2) = (s0, s1, s2)))) := by
          show _ ↔ _
          simp [HLE.out]
        cases e0 : (t0 == s0)
        · go_wp2_with fail
          go_meet
          exact ⟨false, rfl, by rw [← HIF.out, e0]; simp, rfl⟩
        · cases e1 : (t1 == s1)
          · go_wp2_with fail
            go_meet
            exact ⟨false, rfl, by rw [← HIF.out, e0, e1]; simp, rfl⟩
          · cases e2 : (t2 == s2)
            · go_wp2_with fail
              go_meet
              exact ⟨false, rfl, by rw [← HIF.out, e0, e1, e2]; simp, rfl⟩
            · go_wp2_with fail
              go_meet
              exact ⟨true, rfl, by rw [← HIF.out, e0, e1, e2]; simp, rfl⟩
      · have d0 : ((ps.length : Int) == (qs.length : Int)) = false := by simp; omega
        have HLE := Lib.hid hlen
        clear hlen
        go_wp2_with fail
        go_meet
        exact ⟨false, rfl, by simp [HLE.out], rfl⟩
    case rest =>
      obtain ⟨s, rfl, hsi, hwc⟩ := hcut
      rw [hwc]
      clear hwc
      have HSI := Lib.hid hsi
      clear hsi
      have HY0 := Lib.hid (HIP.out.cell' (i := 0) rfl)
      have HX0 := Lib.hid (HIQ.out.cell' (i := 0) rfl)
      have ly := HIP.out.lt
      have lx := HIQ.out.lt
      go_wp2_with fail
      go_loopw [16, 17] (fun sv iv wr => ∃ (j : Nat) (s : Bool), j ≤ ps.length ∧ iv = .int .i64 j ∧ sv = .bool s ∧ (s = true ↔ ((ps.length = qs.length ∧ (t0, t1, t2) = (s0, s1, s2)) ∧ ps.take j = qs.take j)) ∧ Drawn w12 wr) (fun _ iv _ => ps.length - (intOf iv).toNat)
      case atStart => exact ⟨0, s, Nat.zero_le _, rfl, rfl, by simpa using HSI.out, Drawn.refl _⟩
      case round =>
        obtain ⟨j, s', hj, rfl, rfl, hsj, hd⟩ := hrel
        have HSJ := Lib.hid hsj
        have HD := Lib.hid hd
        have y0 := (hd.cell _).trans HY0.out
        have x0 := (hd.cell _).trans HX0.out
        clear hsj
        have HFIN : Hid (¬ (j < ps.length ∧ s' = true) → (s' = true ↔ sb = cb)) := fun hno => by
          have e1 : sb = cb ↔ (ps = qs ∧ (t0, t1, t2) = (s0, s1, s2)) := ⟨fun e => HBS.out.1 e.symm, fun e => (HBS.out.2 e).symm⟩
          rw [e1, HSJ.out]
          constructor
          · rintro ⟨⟨h1, h2⟩, h3⟩
            have hjl : ¬ j < ps.length := fun hlt => hno ⟨hlt, HSJ.out.2 ⟨⟨h1, h2⟩, h3⟩⟩
            rw [List.take_of_length_le (by omega), List.take_of_length_le (by omega)] at h3
            exact ⟨h3, h2⟩
          · rintro ⟨h1, h2⟩
            exact ⟨⟨by rw [h1], h2⟩, by rw [h1]⟩
        by_cases hlt : j < ps.length
        · cases s' with
          | false =>
            have hiff := HFIN.out (by simp)
            have bd : Below w12.heap.size w12 wr := hd.below (Below.refl _ _)
            replace HB := Lib.hid (HB.out.trans (bd.mono HB.out.size))
            replace HI4 := Lib.hid (HI4.out.below bd HI4.out.lt)
            replace HI7 := Lib.hid (HI7.out.below bd HI7.out.lt)
            replace HK4 := Lib.hid (HK4.out.now bd)
            replace HK7 := Lib.hid (HK7.out.now bd)
            clear hd bd HFIN HSJ HD
            have z4 := HI4.out.cell' (i := 0) rfl
            have z7 := HI7.out.cell' (i := 0) rfl
            have HIFF := Lib.hid hiff
            clear hiff
            go_wp2_with fail
            refine (same HIFF.out HK4.out HK7.out (HF.out.more (by omega)) (HFW.out.more (by omega))).mono ?_
            rintro e w20 ⟨rfl, b1⟩
            replace HB := Lib.hid (HB.out.trans (b1.mono HB.out.size))
            replace HI4 := Lib.hid (HI4.out.below b1 HI4.out.lt)
            replace HI7 := Lib.hid (HI7.out.below b1 HI7.out.lt)
            replace HK4 := Lib.hid (HK4.out.now b1)
            replace HK7 := Lib.hid (HK7.out.now b1)
            clear b1 z4 z7 y0 x0
            have z4 := HI4.out.cell' (i := 0) rfl
            have z7 := HI7.out.cell' (i := 0) rfl
            go_wp2_with fail
            refine (same (HIFF.out.trans eq_comm) HK7.out HK4.out (HFW.out.more (by omega)) (HF.out.more (by omega))).mono ?_
            rintro e w21 ⟨rfl, b1⟩
            replace HB := Lib.hid (HB.out.trans (b1.mono HB.out.size))
            clear b1 z4 z7
            go_wp2_with fail
            go_ret
            exact ⟨by simp, HB.out⟩
          | true =>
            have hq := HSJ.out.1 rfl
            have hlu : j < qs.length := by have := hq.1.1; omega
            have y0 := (hd.cell _).trans HY0.out
            have x0 := (hd.cell _).trans HX0.out
            obtain ⟨b, off, rfl, _, lb, q0, q1, q2, q3⟩ := (hd.seq HSP.out.seq).ses hlt
            obtain ⟨b', off', rfl, _, lb', p0, p1, p2, p3⟩ := (hd.seq HSQ.out.seq).ses hlu
            have HNX : Hid (∀ sv : Bool, (sv = true ↔ ps[j] = qs[j]) → (sv = true ↔ ((ps.length = qs.length ∧ (t0, t1, t2) = (s0, s1, s2)) ∧ ps.take (j + 1) = qs.take (j + 1)))) := fun sv hs2 => by
              rw [hs2, List.take_succ_eq_append_getElem hlt, List.take_succ_eq_append_getElem hlu, hq.2]
              constructor
              · intro e; exact ⟨hq.1, by rw [e]⟩
              · rintro ⟨_, e⟩; simpa using List.append_cancel_left e
            generalize ps[j] = x at *
            generalize qs[j] = y at *
            obtain ⟨a0, a1, a2, a3⟩ := x
            obtain ⟨e0, e1, e2, e3⟩ := y
            simp only at q0 q1 q2 q3 p0 p1 p2 p3
            clear hd hq HFIN HSJ
            by_cases h0 : a0 = e0
            · by_cases h1 : a1 = e1
              · by_cases h2 : a2 = e2
                · by_cases h3 : a3 = e3
                  · have m0 : (a0 == e0) = true := by simpa using h0
                    have m1 : (a1 == e1) = true := by simpa using h1
                    have m2 : (a2 == e2) = true := by simpa using h2
                    have m3 : (a3 == e3) = true := by simpa using h3
                    have HNZ := Lib.hid (HNX.out true ⟨fun _ => (by rw [h0, h1, h2, h3]), fun _ => rfl⟩)
                    clear HNX h0 h1 h2 h3
                    go_wp2_with fail
                    go_quiet (fail)
                    go_wp2_with fail
                    go_roundw
                    case rel => exact ⟨j + 1, true, by omega, by go_num, rfl, by simpa using HNZ.out, HD.out.drewN _⟩
                    case measure => simp [intOf]; omega
                  · have m0 : (a0 == e0) = true := by simpa using h0
                    have m1 : (a1 == e1) = true := by simpa using h1
                    have m2 : (a2 == e2) = true := by simpa using h2
                    have m3 : (a3 == e3) = false := by simpa using h3
                    have HNZ := Lib.hid (HNX.out false ⟨fun e => (by cases e), fun e => absurd (by simp only [Prod.mk.injEq] at e; exact e.2.2.2) h3⟩)
                    clear HNX h0 h1 h2 h3
                    go_wp2_with fail
                    go_quiet (fail)
                    go_wp2_with fail
                    go_roundw
                    case rel => exact ⟨j + 1, false, by omega, by go_num, rfl, HNZ.out, HD.out.drewN _⟩
                    case measure => simp [intOf]; omega
                · have m0 : (a0 == e0) = true := by simpa using h0
                  have m1 : (a1 == e1) = true := by simpa using h1
                  have m2 : (a2 == e2) = false := by simpa using h2
                  have HNZ := Lib.hid (HNX.out false ⟨fun e => (by cases e), fun e => absurd (by simp only [Prod.mk.injEq] at e; exact e.2.2.1) h2⟩)
                  clear HNX h0 h1 h2
                  go_wp2_with fail
                  go_quiet (fail)
                  go_wp2_with fail
                  go_roundw
                  case rel => exact ⟨j + 1, false, by omega, by go_num, rfl, HNZ.out, HD.out.drewN _⟩
                  case measure => simp [intOf]; omega
              · have m0 : (a0 == e0) = true := by simpa using h0
                have m1 : (a1 == e1) = false := by simpa using h1
                have HNZ := Lib.hid (HNX.out false ⟨fun e => (by cases e), fun e => absurd (by simp only [Prod.mk.injEq] at e; exact e.2.1) h1⟩)
                clear HNX h0 h1
                go_wp2_with fail
                go_quiet (fail)
                go_wp2_with fail
                go_roundw
                case rel => exact ⟨j + 1, false, by omega, by go_num, rfl, HNZ.out, HD.out.drewN _⟩
                case measure => simp [intOf]; omega
            · have m0 : (a0 == e0) = false := by simpa using h0
              have HNZ := Lib.hid (HNX.out false ⟨fun e => (by cases e), fun e => absurd (by simp only [Prod.mk.injEq] at e; exact e.1) h0⟩)
              clear HNX h0
              go_wp2_with fail
              go_quiet (fail)
              go_wp2_with fail
              go_roundw
              case rel => exact ⟨j + 1, false, by omega, by go_num, rfl, HNZ.out, HD.out.drewN _⟩
              case measure => simp [intOf]; omega
        · have hiff := HFIN.out (by exact fun h => hlt h.1)
          have bd : Below w12.heap.size w12 wr := hd.below (Below.refl _ _)
          replace HB := Lib.hid (HB.out.trans (bd.mono HB.out.size))
          replace HI4 := Lib.hid (HI4.out.below bd HI4.out.lt)
          replace HI7 := Lib.hid (HI7.out.below bd HI7.out.lt)
          replace HK4 := Lib.hid (HK4.out.now bd)
          replace HK7 := Lib.hid (HK7.out.now bd)
          clear hd bd HFIN HSJ HD
          have z4 := HI4.out.cell' (i := 0) rfl
          have z7 := HI7.out.cell' (i := 0) rfl
          have HIFF := Lib.hid hiff
          clear hiff
          go_wp2_with fail
          refine (same HIFF.out HK4.out HK7.out (HF.out.more (by omega)) (HFW.out.more (by omega))).mono ?_
          rintro e w20 ⟨rfl, b1⟩
          replace HB := Lib.hid (HB.out.trans (b1.mono HB.out.size))
          replace HI4 := Lib.hid (HI4.out.below b1 HI4.out.lt)
          replace HI7 := Lib.hid (HI7.out.below b1 HI7.out.lt)
          replace HK4 := Lib.hid (HK4.out.now b1)
          replace HK7 := Lib.hid (HK7.out.now b1)
          clear b1 z4 z7 y0 x0
          have z4 := HI4.out.cell' (i := 0) rfl
          have z7 := HI7.out.cell' (i := 0) rfl
          go_wp2_with fail
          refine (same (HIFF.out.trans eq_comm) HK7.out HK4.out (HFW.out.more (by omega)) (HF.out.more (by omega))).mono ?_
          rintro e w21 ⟨rfl, b1⟩
          replace HB := Lib.hid (HB.out.trans (b1.mono HB.out.size))
          clear b1 z4 z7
          go_wp2_with fail
          go_ret
          exact ⟨by simp, HB.out⟩

set_option maxRecDepth 100000 in
theorem lifted (os : Os) (started : os.Started) (H : Type) (enc : TypeId × Value → H) :
    ReturnsInHanded {} Try.checked os 8 .any (Rows.bookSameSpec.pre6 enc Try.prog Try.f8 Rows.bookSameRow.domain false) (Rows.bookSameSpec.post enc Try.prog Try.f8 false true false false) := by
  refine returnsInHanded_of_change (C := Try.checked) own started (by kernel_rfl) Try.func8
    (ChangeSpec.witness6 (enc := enc) (C := Try.checked) false ⟨#[], #[.slice none 0 0, .agg #[.int .i64 0, .string ⟨#[]⟩, .int .i64 0, .int .i64 0, .int .i64 0, .int .u64 0, .slice none 0 0]], []⟩ 8 (by kernel_rfl) (by kernel_rfl) (by kernel_rfl) (by kernel_rfl)) ?_
  intro W base args ds gs before hval0 hW hcnd _
  have hval : ∀ (j : Nat) t v, Try.f8.params[j]? = some t → args[j]? = some v → Value.okWide Try.prog W .any base t v := hval0
  have hW' := hW
  obtain ⟨p, q, hA0, hV, rfl, hfz, hnd⟩ := hW
  have hA : DataW.TrodAll enc Try.prog W 0 (fun _ => true) true Try.f8.params.toList args.toList ds p := hA0
  rw [Try.params8] at hA hval
  obtain ⟨v0, vs0, d0, ds0, p0, q0, hargs, rfl, rfl, h0, r0⟩ := trodAll_cons hA
  obtain ⟨v1, vs1, d1, ds1, p1, q1, rfl, rfl, rfl, h1, r1⟩ := trodAll_cons r0
  obtain ⟨rfl, rfl, rfl⟩ := trodAll_nil r1
  obtain rfl : args = #[v0, v1] := by cases args; simp_all
  obtain ⟨A, c, l, rfl, hs, hl, hq⟩ := open_acts (hval 0 22 v0 rfl rfl) h0
  obtain ⟨q, rfl, hg⟩ := open_op (hval 1 33 v1 rfl rfl) h1
  refine (walk l A c q hg W hs hl hq).mono fun e W' ⟨he, bel⟩ => ?_
  subst he
  exact ⟨_, rfl, Law.post_law laidOut (by kernel_rfl) (by kernel_rfl) Try.underlying4 rfl (fun ds h => by match ds, h with | [_, _], _ => rfl) hW' bel⟩

theorem proved : Rows.BookSameSaid :=
  OpenClaim.holds_of_wide 8 Try.f8 rfl rfl rfl rfl rfl rfl rfl ⟨rfl, rfl, rfl, rfl, rfl⟩ rfl rfl rfl rfl rfl (by kernel_rfl) Try.func8 (by kernel_rfl)
    (of_decide_eq_true (by kernel_rfl)) (by unfold Func.isWrapper; rw [if_neg (by decide +kernel)]; exact ⟨rfl, rfl⟩)
    (fun os started H enc _ => lifted os started H enc)
#print axioms proved
end Go.Proofs.Ytjjemdmbhgmiiaa.bookSame
