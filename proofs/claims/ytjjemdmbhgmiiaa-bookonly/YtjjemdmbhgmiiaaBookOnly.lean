/-
  BookOnly: whatever the acts, the op and the user, the statement's function returns true, and the arguments read as before. No condition.
-/
import Derived.Test.YtjjemdmbhgmiiaaBook08
import Derived.Lib.QuietBelow
import Derived.BigQuiet
namespace Go.Proofs.Ytjjemdmbhgmiiaa.bookOnly
open Go.ChangeShapes Go.WideShapes Go.ChangeAt Go.RowKit
open Go.Law Go.Proofs.Ytjjemdmbhgmiiaa.Bk Go.Proofs.Ytjjemdmbhgmiiaa.OmapB Door Go.Sort

set_option maxRecDepth 100000 in
set_option maxHeartbeats 8000000 in
theorem walk (l : List ActV) (A : Option Addr) (c : Nat) (q : OpV) (hg : q.Good) (user : ByteArray) (w : World) (hs : Seq w 0 w.heap.size A (flatA l)) (hl : l.length ≤ maxLen) (hq : ∀ q ∈ l, q.Good) :
    Calls Try.prog 6 #[.slice A l.length c, q.val, .string user] w fun e w' => e = .returned (.bool true) ∧ Below w.heap.size w w' := by
  have HS := Lib.hid hs
  have HQ := Lib.hid hq
  have HL := Lib.hid hl
  have HB := Lib.hid (Below.refl w.heap.size w)
  have HUT := Lib.hid (ofwf hg.ttl)
  obtain ⟨kind, xu, id, st, pr, ttl, users⟩ := q
  simp only [OpV.val] at *
  have hxs := hg.user
  simp only at hxs
  obtain ⟨Au, nu, cu, hus⟩ := hg.users
  simp only at hus
  subst hus
  clear hs hq hl hg
  go_enter Try.func6, Try.ntmps6
  go_wp2_with fail
  have HI0 := Lib.hid (Is.new w 33 #[.int .i64 kind, .string xu, .int .i64 id, .int .i64 st, .int .i64 pr, .int .u64 ttl, .slice Au nu cu] rfl)
  have bx := (Below.refl w.heap.size w).alloc (Nat.le_refl _) (.cells #[.int .i64 kind, .string xu, .int .i64 id, .int .i64 st, .int .i64 pr, .int .u64 ttl, .slice Au nu cu] 33)
  replace HS := Lib.hid ((HS.out.below bx).more bx.size)
  replace HB := Lib.hid (HB.out.trans (bx.mono HB.out.size))
  generalize w.alloc (.cells #[.int .i64 kind, .string xu, .int .i64 id, .int .i64 st, .int .i64 pr, .int .u64 ttl, .slice Au nu cu] 33) = w0 at *
  clear bx
  refine (awake _).mono ?_
  rintro e w1 ⟨rfl, b1⟩
  replace HS := Lib.hid ((HS.out.below b1).more b1.size)
  replace HB := Lib.hid (HB.out.trans (b1.mono HB.out.size))
  replace HI0 := Lib.hid (HI0.out.below b1 HI0.out.lt)
  clear b1
  go_wp2_with fail
  refine (long_ l A c _ HS.out HL.out HQ.out).mono ?_
  rintro e w' ⟨rfl, rfl⟩
  have c1 := HI0.out.cell' (i := 1) rfl
  cases hlong : longB l with
  | true =>
    go_wp2_with fail
    refine (awake _).mono ?_
    rintro e w2 ⟨rfl, b1⟩
    replace HB := Lib.hid (HB.out.trans (b1.mono HB.out.size))
    clear b1
    go_wp2_with fail
    go_ret
    exact ⟨rfl, HB.out⟩
  | false =>
    by_cases hu : 100 < user.size
    · have d1 : decide ((100 : Int) < (user.size : Int)) = true := by simp; omega
      go_wp2_with fail
      refine (awake _).mono ?_
      rintro e w2 ⟨rfl, b1⟩
      replace HB := Lib.hid (HB.out.trans (b1.mono HB.out.size))
      clear b1
      go_wp2_with fail
      go_ret
      exact ⟨rfl, HB.out⟩
    have d1 : decide ((100 : Int) < (user.size : Int)) = false := by simp; omega
    by_cases hx : 100 < xu.size
    · have d2 : decide ((100 : Int) < (xu.size : Int)) = true := by simp; omega
      go_wp2_with fail
      refine (awake _).mono ?_
      rintro e w2 ⟨rfl, b1⟩
      replace HB := Lib.hid (HB.out.trans (b1.mono HB.out.size))
      clear b1
      go_wp2_with fail
      go_ret
      exact ⟨rfl, HB.out⟩
    have d2 : decide ((100 : Int) < (xu.size : Int)) = false := by simp; omega
    have hl2 := long_le hlong
    have HMF := Lib.hid (made_fit 4 l HQ.out)
    clear hlong
    go_wp2_with fail
    refine (made_ l A c 4 _ HS.out hl2 HQ.out).mono ?_
    rintro e w2 ⟨p2, rfl, k2, b1⟩
    replace HB := Lib.hid (HB.out.trans (b1.mono HB.out.size))
    replace HI0 := Lib.hid (HI0.out.below b1 HI0.out.lt)
    have HK := Lib.hid k2
    clear b1 k2 HS c1
    have HF := Lib.hid (HMF.out.1.more hl2)
    have HUN := Lib.hid HMF.out.2
    clear HMF
    generalize madeB 4 l = sx at *
    obtain ⟨sb, sn⟩ := sx
    simp only at HK HF HUN
    have hsl := HF.out.len
    have hsu := HF.out.of xu
    have hso := HF.out.of user
    have c0 := HI0.out.cell' (i := 0) rfl
    have c1 := HI0.out.cell' (i := 1) rfl
    have c2 := HI0.out.cell' (i := 2) rfl
    have c3 := HI0.out.cell' (i := 3) rfl
    have c4 := HI0.out.cell' (i := 4) rfl
    have c5 := HI0.out.cell' (i := 5) rfl
    have c6 := HI0.out.cell' (i := 6) rfl
    have lI := HI0.out.lt
    go_wp2_with fail
    have HI2 := Lib.hid (Is.new w2 27 #[.pointer p2] rfl)
    have bx := (Below.refl w2.heap.size w2).alloc (Nat.le_refl _) (.cells #[.pointer p2] 27)
    replace HB := Lib.hid (HB.out.trans (bx.mono HB.out.size))
    replace HK := Lib.hid (HK.out.now bx)
    replace HI0 := Lib.hid (HI0.out.below bx HI0.out.lt)
    generalize w2.alloc (.cells #[.pointer p2] 27) = w3 at *
    clear bx
    refine (write ⟨kind, xu, id, st, pr, ttl, .slice Au nu cu⟩ sn 4 HUN.out HUT.out HK.out HF.out.book (by simp only; omega) (by omega)).mono ?_
    rintro e w4 ⟨p4, A4, cc4, rfl, k4, q4, b1⟩
    replace HB := Lib.hid (HB.out.trans (b1.mono HB.out.size))
    replace HK := Lib.hid (HK.out.now b1)
    replace HI0 := Lib.hid (HI0.out.below b1 HI0.out.lt)
    replace HI2 := Lib.hid (HI2.out.below b1 HI2.out.lt)
    have HK4 := Lib.hid k4
    clear b1 k4 q4 c0 c1 c2 c3 c4 c5 c6 lI
    have c0 := HI0.out.cell' (i := 0) rfl
    have c1 := HI0.out.cell' (i := 1) rfl
    have c2 := HI0.out.cell' (i := 2) rfl
    have c3 := HI0.out.cell' (i := 3) rfl
    have c4 := HI0.out.cell' (i := 4) rfl
    have c5 := HI0.out.cell' (i := 5) rfl
    have c6 := HI0.out.cell' (i := 6) rfl
    have lI := HI0.out.lt
    have z2 := HI2.out.cell' (i := 0) rfl
    have l2 := HI2.out.lt
    go_upto_region 5 with (fail)
    have HI4 := Lib.hid (Is.new w4 27 #[.pointer p4] rfl)
    have bx := (Below.refl w4.heap.size w4).alloc (Nat.le_refl _) (.cells #[.pointer p4] 27)
    replace HB := Lib.hid (HB.out.trans (bx.mono HB.out.size))
    replace HK := Lib.hid (HK.out.now bx)
    replace HK4 := Lib.hid (HK4.out.now bx)
    replace HI0 := Lib.hid (HI0.out.below bx HI0.out.lt)
    replace HI2 := Lib.hid (HI2.out.below bx HI2.out.lt)
    generalize w4.alloc (.cells #[.pointer p4] 27) = w5 at *
    clear bx
    have HFW := Lib.hid (HF.out.write (q := ⟨kind, xu, id, st, pr, ttl, .slice Au nu cu⟩) (now := sn) (most := 4))
    have hsw := HFW.out.of user
    obtain ⟨s0, s1, s2, hp⟩ : ∃ s0 s1 s2, presS sn (sesK user sb) = (s0, s1, s2) := ⟨_, _, _, rfl⟩
    have HPB : Hid (∀ d os, Calls Try.prog 21 #[.agg #[.pointer p2], .string user, .int .u64 sn] (grow (redrawn w5 d) os) fun e w' => e = .returned (.agg #[.int .i64 s0, .int .i64 s1, .int .i64 s2]) ∧ Below (grow (redrawn w5 d) os).heap.size (grow (redrawn w5 d) os) w') := fun d os =>
      presence user sn hp (HK.out.now (below_regrown w5 d os)) HF.out.book.1 (by omega)
    have HPC : Hid (user ≠ xu → ∀ d os, Calls Try.prog 21 #[.agg #[.pointer p4], .string user, .int .u64 sn] (grow (redrawn w5 d) os) fun e w' => e = .returned (.agg #[.int .i64 s0, .int .i64 s1, .int .i64 s2]) ∧ Below (grow (redrawn w5 d) os).heap.size (grow (redrawn w5 d) os) w') := fun hne d os =>
      presence user sn (by unfold wrB; rw [ses_become_other lt tri hne, hp]) (HK4.out.now (below_regrown w5 d os)) HFW.out.book.1 (by omega)
    have r1 := cell_regrown (HI0.out.cell' (i := 1) rfl)
    have r2 := cell_regrown (HI2.out.cell' (i := 0) rfl)
    have r4 := cell_regrown (HI4.out.cell' (i := 0) rfl)
    clear c0 c1 c2 c3 c4 c5 c6 lI z2 l2 hp
    go_cut [68] (fun v wx => v = .bool false ∧ Below w5.heap.size w5 wx)
    case first =>
      by_cases hux : user = xu
      · subst hux
        refine wp_region_quiet_below (by kernel_rfl) (by kernel_rfl) ?_
        repeat (go_big_quiet_step (fail))
        refine wpQuiet_nil ?_
        intro _ hw'
        obtain ⟨⟨nq, osq⟩, hw''⟩ := hw'
        subst hw''
        go_wp2_with fail
        go_meet
        exact ⟨rfl, below_regrown w5 nq osq⟩
      · have hne : (user.toList == xu.toList) = false := by simpa using fun e => hux (OmapB.ext e)
        have HPC' := Lib.hid (HPC.out hux)
        refine wp_region_quiet_below (by kernel_rfl) (by kernel_rfl) ?_
        repeat (go_big_quiet_step (first
          | (go_at_call_of 21 (Value.agg #[.pointer p2]); with_reducible exact Calls.regrown_of (HPB.out _ _))
          | (go_at_call_of 21 (Value.agg #[.pointer p4]); with_reducible exact Calls.regrown_of (HPC'.out _ _))))
        refine wpQuiet_nil ?_
        intro _ hw'
        obtain ⟨⟨nq, osq⟩, hw''⟩ := hw'
        subst hw''
        go_wp2_with fail
        go_meet
        exact ⟨rfl, below_regrown w5 nq osq⟩
    case rest =>
      obtain ⟨rfl, b1⟩ := hcut
      clear r1 r2 r4 HPB HPC HK4 HI4 HFW hsw
      replace HB := Lib.hid (HB.out.trans (b1.mono HB.out.size))
      replace HK := Lib.hid (HK.out.now b1)
      replace HI0 := Lib.hid (HI0.out.below b1 HI0.out.lt)
      replace HI2 := Lib.hid (HI2.out.below b1 HI2.out.lt)
      clear b1
      have c0 := HI0.out.cell' (i := 0) rfl
      have c1 := HI0.out.cell' (i := 1) rfl
      have c2 := HI0.out.cell' (i := 2) rfl
      have c3 := HI0.out.cell' (i := 3) rfl
      have c4 := HI0.out.cell' (i := 4) rfl
      have c5 := HI0.out.cell' (i := 5) rfl
      have c6 := HI0.out.cell' (i := 6) rfl
      have lI := HI0.out.lt
      go_upto_region 7 with (fail)
      go_cut [12, 13] (fun v12 v13 wx => ∃ ga gb, v12 = .pointer (some ⟨ga, 0, none⟩) ∧ v13 = .pointer (some ⟨gb, 0, none⟩) ∧ ga ≠ gb ∧ wc.heap.size ≤ ga ∧ wc.heap.size ≤ gb ∧ Is wx ga 33 #[.int .i64 kind, .string xu, .int .i64 id, .int .i64 st, .int .i64 pr, .int .u64 ttl, .slice Au nu cu] ∧ Is wx gb 33 #[.int .i64 kind, .string xu, .int .i64 id, .int .i64 st, .int .i64 pr, .int .u64 ttl, .slice Au nu cu] ∧ Below wc.heap.size wc wx)
      case first =>
        have hne : w.heap.size ≠ wc.heap.size := by omega
        have hne2 : w.heap.size ≠ wc.heap.size + 1 := by omega
        go_region_held3 (fun w' => w'.cell? ⟨w.heap.size, 0, none⟩ = some (.int .i64 kind) ∧ w'.cell? ⟨w.heap.size, 1, none⟩ = some (.string xu) ∧ w'.cell? ⟨w.heap.size, 2, none⟩ = some (.int .i64 id) ∧ w'.cell? ⟨w.heap.size, 3, none⟩ = some (.int .i64 st) ∧ w'.cell? ⟨w.heap.size, 4, none⟩ = some (.int .i64 pr) ∧ w'.cell? ⟨w.heap.size, 5, none⟩ = some (.int .u64 ttl) ∧ w'.cell? ⟨w.heap.size, 6, none⟩ = some (.slice Au nu cu)) (go_simp) (fail)
        all_goals go_wp2_with fail
        all_goals go_meet
        all_goals first
          | exact ⟨_, _, rfl, rfl, by omega, by omega, by omega, ((Is.new _ _ _ rfl).alloc _).drew, (Is.new _ _ _ (by simp)).drew, (Law.below_drewN (((Below.refl _ _).alloc (Nat.le_refl _) _).alloc (by simp) _) 1)⟩
          | exact ⟨_, _, rfl, rfl, by omega, by omega, by omega, (Is.new _ _ _ (by simp)).drew, ((Is.new _ _ _ rfl).alloc _).drew, (Law.below_drewN (((Below.refl _ _).alloc (Nat.le_refl _) _).alloc (by simp) _) 1)⟩
      case rest =>
        obtain ⟨ga, gb, rfl, rfl, hgab, hga, hgb, hia, hib, b1⟩ := hcut
        clear c0 c1 c2 c3 c4 c5 c6
        have l2' := HI2.out.lt
        have n0a : w.heap.size ≠ ga := by omega
        have n0b : w.heap.size ≠ gb := by omega
        have n2a : w2.heap.size ≠ ga := by omega
        have n2b : w2.heap.size ≠ gb := by omega
        have hwa := HB.out.size
        replace HB := Lib.hid (HB.out.trans (b1.mono HB.out.size))
        replace HK := Lib.hid (HK.out.now b1)
        replace HI0 := Lib.hid (HI0.out.below b1 HI0.out.lt)
        replace HI2 := Lib.hid (HI2.out.below b1 HI2.out.lt)
        have hba : gb ≠ ga := fun e => hgab e.symm
        have a0 := hia.cell' (i := 0) rfl
        have a1 := hia.cell' (i := 1) rfl
        have a2 := hia.cell' (i := 2) rfl
        have a3 := hia.cell' (i := 3) rfl
        have a4 := hia.cell' (i := 4) rfl
        have a5 := hia.cell' (i := 5) rfl
        have a6 := hia.cell' (i := 6) rfl
        have a0f := hia.frozen 0
        have e0 := hib.cell' (i := 0) rfl
        have e0f := hib.frozen 0
        have la := hia.lt
        have lb := hib.lt
        have z2 := HI2.out.cell' (i := 0) rfl
        have l2 := HI2.out.lt
        have hib1 := hib.far (p := ⟨ga, 0, none⟩) hba (.int .i64 1)
        have HIA := Lib.hid ((hia.set 0 (.int .i64 1) rfl).far (p := ⟨gb, 0, none⟩) hgab (.int .i64 3))
        have HIB := Lib.hid (hib1.set 0 (.int .i64 3) rfl)
        replace HK := Lib.hid ((HK.out.store (i := 0) hia (by decide) (by decide) (.int .i64 1)).store (i := 0) hib1 (by decide) (by decide) (.int .i64 3))
        replace HI2 := Lib.hid ((HI2.out.far (p := ⟨ga, 0, none⟩) n2a (.int .i64 1)).far (p := ⟨gb, 0, none⟩) n2b (.int .i64 3))
        replace HI0 := Lib.hid ((HI0.out.far (p := ⟨ga, 0, none⟩) n0a (.int .i64 1)).far (p := ⟨gb, 0, none⟩) n0b (.int .i64 3))
        replace HB := Lib.hid ((HB.out.setCell (p := ⟨ga, 0, none⟩) (by simp only []; omega) (.int .i64 1)).setCell (p := ⟨gb, 0, none⟩) (by simp only []; omega) (.int .i64 3))
        clear hia hib hib1 b1
        go_wp2_with fail
        generalize (wc.setCell ⟨ga, 0, none⟩ (.int .i64 1)).setCell ⟨gb, 0, none⟩ (.int .i64 3) = w6 at *
        clear a0 a1 a2 a3 a4 a5 a6 a0f e0 e0f la lb z2 l2
        refine (write ⟨1, xu, id, st, pr, ttl, .slice Au nu cu⟩ sn 4 HUN.out HUT.out HK.out HF.out.book (by simp only; omega) (by omega)).mono ?_
        rintro e w7 ⟨p7, A7, c7, rfl, k7, q7, b1⟩
        replace HB := Lib.hid (HB.out.trans (b1.mono HB.out.size))
        replace HI0 := Lib.hid (HI0.out.below b1 HI0.out.lt)
        replace HI2 := Lib.hid (HI2.out.below b1 HI2.out.lt)
        replace HIA := Lib.hid (HIA.out.below b1 HIA.out.lt)
        replace HIB := Lib.hid (HIB.out.below b1 HIB.out.lt)
        have HK7 := Lib.hid k7
        clear b1 k7 q7 HK
        have b0 := HIB.out.cell' (i := 0) rfl
        have b1 := HIB.out.cell' (i := 1) rfl
        have b2 := HIB.out.cell' (i := 2) rfl
        have b3 := HIB.out.cell' (i := 3) rfl
        have b4 := HIB.out.cell' (i := 4) rfl
        have b5 := HIB.out.cell' (i := 5) rfl
        have b6 := HIB.out.cell' (i := 6) rfl
        have lb := HIB.out.lt
        by_cases hE : wrE ⟨1, xu, id, st, pr, ttl, .slice Au nu cu⟩ sn 4 sb = 0
        · have HD := Lib.hid (HF.out.write (q := ⟨1, xu, id, st, pr, ttl, .slice Au nu cu⟩) (now := sn) (most := 4))
          have HSD : Hid (sesK xu (wrB ⟨1, xu, id, st, pr, ttl, .slice Au nu cu⟩ sn 4 sb) = put (id, st, pr, sat sn ttl) (live sn (sesK xu sb))) := set_ses hE
          have HLU := Lib.hid (live_up sn (HF.out.book.ses lt xu))
          rw [hE]
          generalize wrB ⟨1, xu, id, st, pr, ttl, .slice Au nu cu⟩ sn 4 sb = db at *
          generalize wrC ⟨1, xu, id, st, pr, ttl, .slice Au nu cu⟩ sn 4 sb = dc at *
          go_wp2_with fail
          have hdl := HD.out.len
          have hdu := HD.out.of xu
          have HI7 := Lib.hid (Is.new w7 27 #[.pointer p7] rfl)
          have bx := (Below.refl w7.heap.size w7).alloc (Nat.le_refl _) (.cells #[.pointer p7] 27)
          replace HB := Lib.hid (HB.out.trans (bx.mono HB.out.size))
          replace HI0 := Lib.hid (HI0.out.below bx HI0.out.lt)
          replace HIB := Lib.hid (HIB.out.below bx HIB.out.lt)
          replace HK7 := Lib.hid (HK7.out.now bx)
          generalize w7.alloc (.cells #[.pointer p7] 27) = w8 at *
          clear bx
          refine (write ⟨3, xu, id, st, pr, ttl, .slice Au nu cu⟩ sn 4 HUN.out HUT.out HK7.out HD.out.book (by simp only; omega) (by omega)).mono ?_
          rintro e w9 ⟨p9, A9, c9, rfl, k9, q9, bb⟩
          replace HB := Lib.hid (HB.out.trans (bb.mono HB.out.size))
          replace HI0 := Lib.hid (HI0.out.below bb HI0.out.lt)
          have HK9 := Lib.hid k9
          have HD9 := Lib.hid (HD.out.write (q := ⟨3, xu, id, st, pr, ttl, .slice Au nu cu⟩) (now := sn) (most := 4))
          have HNO := Lib.hid (clear_ses xu id st pr ttl 4 sn (.slice Au nu cu) db)
          have HER := Lib.hid (clear_err xu id st pr ttl 4 sn (.slice Au nu cu) db)
          rw [HSD.out, live_put_has (id, st, pr, sat sn ttl) HLU.out] at HER
          clear bb k9 q9 HK7 b0 b1 b2 b3 b4 b5 b6 lb HIB HI7 HI2
          have hfu := HD9.out.of xu
          generalize wrB ⟨3, xu, id, st, pr, ttl, .slice Au nu cu⟩ sn 4 db = fb at *
          generalize wrC ⟨3, xu, id, st, pr, ttl, .slice Au nu cu⟩ sn 4 db = fc at *
          generalize wrE ⟨3, xu, id, st, pr, ttl, .slice Au nu cu⟩ sn 4 db = fe at *
          obtain ⟨t0, t1, t2, ht⟩ : ∃ t0 t1 t2, toldK xu fb = (t0, t1, t2) := ⟨_, _, _, rfl⟩
          obtain ⟨ss, hss⟩ : ∃ ss, sesK xu fb = ss := ⟨_, rfl⟩
          rw [hss] at HNO hfu
          have HSS := Lib.hid hss
          have HTT := Lib.hid ht
          clear ht hss
          have x1 := HI0.out.cell' (i := 1) rfl
          have lx := HI0.out.lt
          go_wp2_with fail
          have HI9 := Lib.hid (Is.new w9 27 #[.pointer p9] rfl)
          have bx := (Below.refl w9.heap.size w9).alloc (Nat.le_refl _) (.cells #[.pointer p9] 27)
          replace HB := Lib.hid (HB.out.trans (bx.mono HB.out.size))
          replace HI0 := Lib.hid (HI0.out.below bx HI0.out.lt)
          replace HK9 := Lib.hid (HK9.out.now bx)
          generalize w9.alloc (.cells #[.pointer p9] 27) = w10 at *
          clear bx
          refine (get xu HSS.out HTT.out rfl HK9.out HD9.out.book.1).mono ?_
          rintro e w11 ⟨A11, c11, rfl, sq, bb⟩
          replace HB := Lib.hid (HB.out.trans (bb.mono HB.out.size))
          replace HI0 := Lib.hid (HI0.out.below bb HI0.out.lt)
          have HSQ := Lib.hid sq
          clear bb sq x1 lx HK9 HI9
          go_wp2_with fail
          have HIY := Lib.hid (Is.new w11 70 #[.slice A11 ss.length c11, .int .i64 t0, .int .i64 t1, .int .i64 t2] rfl)
          have bx := (Below.refl w11.heap.size w11).alloc (Nat.le_refl _) (.cells #[.slice A11 ss.length c11, .int .i64 t0, .int .i64 t1, .int .i64 t2] 70)
          replace HB := Lib.hid (HB.out.trans (bx.mono HB.out.size))
          replace HI0 := Lib.hid (HI0.out.below bx HI0.out.lt)
          replace HSQ := Lib.hid (HSQ.out.now bx)
          generalize w11.alloc (.cells #[.slice A11 ss.length c11, .int .i64 t0, .int .i64 t1, .int .i64 t2] 70) = w12 at *
          clear bx
          have y0 := HIY.out.cell' (i := 0) rfl
          have x2 := HI0.out.cell' (i := 2) rfl
          have x5 := HI0.out.cell' (i := 5) rfl
          have HCY := Lib.hid y0
          have HCX := Lib.hid x2
          have HCT := Lib.hid x5
          have ly := HIY.out.lt
          clear y0 x2 x5
          go_loopw [22] (fun iv wr => ∃ j : Nat, j ≤ ss.length ∧ iv = .int .i64 j ∧ Drawn w12 wr) (fun iv _ => ss.length - (intOf iv).toNat)
          case atStart => exact ⟨0, Nat.zero_le _, rfl, Drawn.refl _⟩
          case round =>
            obtain ⟨j, hj, rfl, hd⟩ := hrel
            have y0 := (hd.cell _).trans HCY.out
            have x2 := (hd.cell _).trans HCX.out
            have HDR := Lib.hid hd
            by_cases hlt : j < ss.length
            · obtain ⟨b, off, rfl, _, lb, q0, _⟩ := (hd.seq HSQ.out.seq).ses hlt
              have hne := not_mem HNO.out _ (List.getElem_mem hlt)
              generalize ss[j] = sj at *
              obtain ⟨y1, y2, y3, y4⟩ := sj
              simp only at q0 hne
              have d1 : (y1 == id) = false := by simpa using hne
              clear hd
              go_wp2_with fail
              go_quiet (fail)
              go_wp2_with fail
              go_roundw
              case rel => exact ⟨j + 1, by omega, by go_num, HDR.out.drewN _⟩
              case measure => simp [intOf]; omega
            · have HBF := Lib.hid (hd.below HB.out)
              have x5 := (hd.cell _).trans HCT.out
              clear hd
              by_cases hlv : sn < sat sn ttl
              · have hfe : fe = 0 := by rw [HER.out]; simp [hlv]
                subst hfe
                go_wp2_with fail
                go_ret
                exact ⟨rfl, HBF.out⟩
              · have hfe : fe = 3 := by rw [HER.out]; simp [hlv]
                subst hfe
                rcases no_sat HUN.out HUT.out hlv with ht | hn
                · have d5 : (ttl == 0) = true := by simpa using ht
                  go_wp2_with fail
                  go_ret
                  exact ⟨rfl, HBF.out⟩
                · have d6 : (sn == 18446744073709551615) = true := by simpa using hn
                  cases d5 : (ttl == 0)
                  · go_wp2_with fail
                    go_ret
                    exact ⟨rfl, HBF.out⟩
                  · go_wp2_with fail
                    go_ret
                    exact ⟨rfl, HBF.out⟩
        · have hE2 : wrE ⟨1, xu, id, st, pr, ttl, .slice Au nu cu⟩ sn 4 sb = 2 := set_err hE
          rw [hE2]
          go_wp2_with fail
          go_ret
          exact ⟨rfl, HB.out.alloc (by have := HB.out.size; omega) _⟩

set_option maxRecDepth 100000 in
theorem lifted (os : Os) (started : os.Started) (H : Type) (enc : TypeId × Value → H) :
    ReturnsInHanded {} Try.checked os 6 .any (Rows.bookOnlySpec.pre6 enc Try.prog Try.f6 Rows.bookOnlyRow.domain false) (Rows.bookOnlySpec.post enc Try.prog Try.f6 false true false false) := by
  refine returnsInHanded_of_change (C := Try.checked) own started (by kernel_rfl) Try.func6
    (ChangeSpec.witness6 (enc := enc) (C := Try.checked) false ⟨#[], #[.slice none 0 0, .agg #[.int .i64 0, .string ⟨#[]⟩, .int .i64 0, .int .i64 0, .int .i64 0, .int .u64 0, .slice none 0 0], .string ⟨#[]⟩], []⟩ 8 (by kernel_rfl) (by kernel_rfl) (by kernel_rfl) (by kernel_rfl)) ?_
  intro W base args ds gs before hval0 hW hcnd _
  have hval : ∀ (j : Nat) t v, Try.f6.params[j]? = some t → args[j]? = some v → Value.okWide Try.prog W .any base t v := hval0
  have hW' := hW
  obtain ⟨p, q, hA0, hV, rfl, hfz, hnd⟩ := hW
  have hA : DataW.TrodAll enc Try.prog W 0 (fun _ => true) true Try.f6.params.toList args.toList ds p := hA0
  rw [Try.params6] at hA hval
  obtain ⟨v0, vs0, d0, ds0, p0, q0, hargs, rfl, rfl, h0, r0⟩ := trodAll_cons hA
  obtain ⟨v1, vs1, d1, ds1, p1, q1, rfl, rfl, rfl, h1, r1⟩ := trodAll_cons r0
  obtain ⟨v2, vs2, d2, ds2, p2, q2, rfl, rfl, rfl, h2, r2⟩ := trodAll_cons r1
  obtain ⟨rfl, rfl, rfl⟩ := trodAll_nil r2
  obtain rfl : args = #[v0, v1, v2] := by cases args; simp_all
  obtain ⟨A, c, l, rfl, hs, hl, hq⟩ := open_acts (hval 0 22 v0 rfl rfl) h0
  obtain ⟨q, rfl, hg⟩ := open_op (hval 1 33 v1 rfl rfl) h1
  obtain ⟨a2, rfl, rfl, rfl, w2⟩ := Go.ChangeMaps.open_string Try.underlying9 (hval 2 9 v2 rfl rfl) h2
  refine (walk l A c q hg a2 W hs hl hq).mono fun e W' ⟨he, bel⟩ => ?_
  subst he
  exact ⟨_, rfl, Law.post_law laidOut (by kernel_rfl) (by kernel_rfl) Try.underlying4 rfl (fun ds h => by match ds, h with | [_, _, _], _ => rfl) hW' bel⟩

theorem proved : Rows.BookOnlySaid :=
  OpenClaim.holds_of_wide 6 Try.f6 rfl rfl rfl rfl rfl rfl rfl ⟨rfl, rfl, rfl, rfl, rfl⟩ rfl rfl rfl rfl rfl (by kernel_rfl) Try.func6 (by kernel_rfl)
    (of_decide_eq_true (by kernel_rfl)) (by unfold Func.isWrapper; rw [if_neg (by decide +kernel)]; exact ⟨rfl, rfl⟩)
    (fun os started H enc _ => lifted os started H enc)
#print axioms proved
end Go.Proofs.Ytjjemdmbhgmiiaa.bookOnly
