/-
  What the reference's (layer 8) Write comes to.
-/
import Derived.Test.YtohdlnefgieenaaGreatJ27
import Derived.Test.YtohdlnefgieenaaGreatJ9
import Derived.Test.YtohdlnefgieenaaGreatJ25
namespace Go.Proofs.YtohdlnefgieenaaGreat
open Go.RowKit
namespace Bk
open Go.Law Go.Proofs.YtohdlnefgieenaaGreat.OmapB Door

section
variable {us ls : List Sn} {A : Option Addr} {c : Nat} {w : World} {er : Int}
theorem refSet_ {s : Sn} {most : Int} (h : SetTo s most us ls er) (hs : Lain 138 w A (flatS us)) (hl : us.length ≤ 900) (hu : Up us) : Calls Tryz.prog 63 #[.slice A us.length c, V s, .int .i64 most] w (Gives w ls er) := by
  rcases h with ⟨h, rfl, rfl⟩ | ⟨h, hm, rfl, rfl⟩ | ⟨h, hm, rfl, rfl⟩
  · exact (Sess.refSetPut s most us A c w hs.seq hl hu true h (.inl rfl)).mono fun _ _ h => gives h
  · exact (Sess.refSetFull s most _ A c w hs.seq hl h hm).mono fun _ w' ⟨h1, h2⟩ => ⟨A, c, h1, hs.now h2, h2⟩
  · exact (Sess.refSetPut s most us A c w hs.seq hl hu false h (.inr hm)).mono fun _ _ h => gives h
theorem refBeat_ {k u : Int} (h : BeatTo k u us ls er) (hs : Lain 138 w A (flatS us)) (hl : us.length ≤ 900) : Calls Tryz.prog 64 #[.slice A us.length c, .int .i64 k, .int .u64 u] w (Gives w ls er) := by
  rcases h with ⟨h, rfl, rfl⟩ | ⟨h, rfl, rfl⟩
  · exact (Sess.refBeatOne k u us A c w hs.seq hl h).mono fun _ _ h => gives h
  · exact (Sess.refBeatNo k u _ A c w hs.seq hl h).mono fun _ w' ⟨h1, h2⟩ => ⟨A, c, h1, hs.now h2, h2⟩
theorem refPurge_ {now : Int} (e : live now us = ls) (hs : Lain 138 w A (flatS us)) (hl : us.length ≤ 900) : Calls Tryz.prog 59 #[.slice A us.length c, .int .u64 now] w fun e w' => ∃ A c, e = .returned (.slice A ls.length c) ∧ Lain 138 w' A (flatS ls) ∧ Below w.heap.size w w' := by
  subst e
  exact (Sess.refPurge now us A c w hs.seq hl).mono fun _ _ ⟨A, c, he, hr, hb⟩ => ⟨A, c, he, Lain.own hr, hb⟩
theorem refClear_ {k : Int} (hs : Lain 138 w A (flatS us)) (hl : us.length ≤ 900) : Calls Tryz.prog 66 #[.slice A us.length c, .int .i64 k] w fun e w' => ∃ A c, e = .returned (.slice A (out k us).length c) ∧ Lain 138 w' A (flatS (out k us)) ∧ Below w.heap.size w w' := 
  (Sess.refClear k us A c w hs.seq hl).mono fun _ _ ⟨A, c, he, hr, hb⟩ => ⟨A, c, he, Lain.own hr, hb⟩
theorem refHas_ {k : Int} {b : Bool} (e : hasS k us = b) (hs : Lain 138 w A (flatS us)) (hl : us.length ≤ 900) : Calls Tryz.prog 65 #[.slice A us.length c, .int .i64 k] w fun e w' => e = .returned (.bool b) ∧ w' = w := by
  subst e
  exact (Sess.refHas k us A c w hs.seq (by omega)).mono fun _ _ ⟨h1, h2⟩ => ⟨h1, h2.symm⟩
end
/-- behind the reference's Write or Sweep -/
def RWrote (w : World) (b : List (ByteArray × En)) (cs : List Ch) (er : Int) (e : Ending) (w' : World) : Prop := ∃ A1 c1 A c, e = .returned (.tuple #[.slice A1 b.length c1, .slice A cs.length c, .int .i64 er]) ∧ UsersAt w' A1 b ∧ Lain 131 w' A (flatC cs) ∧ Below w.heap.size w w'

set_option maxRecDepth 100000 in
set_option maxHeartbeats 4000000 in
theorem refWrite (q : OpV) (now most : Int) {w : World} {A : Option Addr} {c : Nat} {b : List (ByteArray × En)} (hU : U now) (hT : U q.ttl) (h : UsersAt w A b) (hb : Book lt b) (hl : (sesK q.user b).length ≤ 899) (hn : b.length ≤ 900) :
    Calls Tryz.prog 35 #[.slice A b.length c, q.val, .int .u64 now, .int .i64 most] w (RWrote w (wrB q now most b) (wrC q now most b) (wrE q now most b)) := by
  obtain ⟨kind, user, id, st, pr, ttl, users⟩ := q
  obtain ⟨t0, t1, t2, ht⟩ : ∃ t0 t1 t2, toldK user b = (t0, t1, t2) := ⟨_, _, _, rfl⟩
  obtain ⟨ss, hss⟩ : ∃ ss, sesK user b = ss := ⟨_, rfl⟩
  obtain ⟨us, hus⟩ : ∃ us, live now ss = us := ⟨_, rfl⟩
  have hup : Up us := by rw [← hus, ← hss]; exact live_up now (hb.ses lt user)
  have hul : us.length ≤ 899 := by rw [← hus]; have := live_length now ss; rw [← hss] at this ⊢; simp only at hl; omega
  have hsl : ss.length ≤ 899 := by rw [← hss]; exact hl
  unfold wrB wrC wrE wrS
  simp only [OpV.val, hss, hus]
  obtain ⟨un, hun⟩ : ∃ un, sat now ttl = un := ⟨_, rfl⟩
  rw [hun]
  have HUN := Lib.hid hun
  clear hun
  have H := Lib.hid h
  have HBK := Lib.hid hb
  have HT := Lib.hid ht
  have HSS := Lib.hid hss
  have HUS := Lib.hid hus
  have HUP := Lib.hid hup
  have HB := Lib.hid (Below.refl w.heap.size w)
  have HU1 := Lib.hid hU
  have HU2 : Hid (U ttl) := hT
  clear h hb ht hss hus hup hU hT hl
  by_cases k1 : kind = 1
  · subst k1
    obtain ⟨ls, hls⟩ : ∃ ls, (wrote 1 id st pr un most us).1 = ls := ⟨_, rfl⟩
    obtain ⟨er, her⟩ : ∃ er, (wrote 1 id st pr un most us).2 = er := ⟨_, rfl⟩
    rw [hls, her]
    have hll : ls.length ≤ 900 := by rw [← hls]; have := wrote_le 1 id st pr un most us; omega
    have HLS_ := Lib.hid hls
    have HER_ := Lib.hid her
    clear hls her
    go_enter Tryz.func35, Tryz.ntmps35
    go_wp2_with fail
    have HI0 := Lib.hid (Is.new w 37 #[.int .i64 1, .string user, .int .i64 id, .int .i64 st, .int .i64 pr, .int .u64 ttl, users] rfl)
    have bx := (Below.refl w.heap.size w).alloc (Nat.le_refl _) (.cells #[.int .i64 1, .string user, .int .i64 id, .int .i64 st, .int .i64 pr, .int .u64 ttl, users] 37)
    replace H := Lib.hid (H.out.now bx)
    replace HB := Lib.hid (HB.out.trans (bx.mono HB.out.size))
    generalize w.alloc (.cells #[.int .i64 1, .string user, .int .i64 id, .int .i64 st, .int .i64 pr, .int .u64 ttl, users] 37) = w1 at *
    clear bx
    refine (refFind user HSS.out HT.out H.out HBK.out.1 hn).mono ?_
    rintro e w2 ⟨A2, c2, rfl, s2, b1⟩
    have HS2 := Lib.hid s2
    replace H := Lib.hid (H.out.now b1)
    replace HB := Lib.hid (HB.out.trans (b1.mono HB.out.size))
    replace HI0 := Lib.hid (HI0.out.below b1 HI0.out.lt)
    clear b1 s2
    go_wp2_with fail
    refine (refPurge_ HUS.out HS2.out (by omega)).mono ?_
    rintro e w3 ⟨A3, c3, rfl, s3, b1⟩
    have HS := Lib.hid s3
    replace H := Lib.hid (H.out.now b1)
    replace HB := Lib.hid (HB.out.trans (b1.mono HB.out.size))
    replace HI0 := Lib.hid (HI0.out.below b1 HI0.out.lt)
    clear b1 s3 HS2
    have i0 := HI0.out.cell' (i := 0) rfl
    have i1 := HI0.out.cell' (i := 1) rfl
    have i2 := HI0.out.cell' (i := 2) rfl
    have i3 := HI0.out.cell' (i := 3) rfl
    have i4 := HI0.out.cell' (i := 4) rfl
    have i5 := HI0.out.cell' (i := 5) rfl
    have i6 := HI0.out.cell' (i := 6) rfl
    go_wp2_with fail
    refine (Tick.refAdd now ttl HU1.out HU2.out _).mono ?_
    rintro e w' ⟨rfl, rfl⟩
    rw [HUN.out]
    have hls := HLS_.out
    have her := HER_.out
    clear HLS_ HER_
    have HWS : Hid (SetTo (id, st, pr, un) most us ls er) := by rw [← hls, ← her]; exact wrote_set id st pr un most us
    clear hls her
    go_wp2_with fail
    refine (refSet_ HWS.out HS.out (by omega) HUP.out).mono ?_
    rintro e w4 ⟨A4, c4, rfl, s4, b1⟩
    have HG := Lib.hid s4
    replace H := Lib.hid (H.out.now b1)
    replace HB := Lib.hid (HB.out.trans (b1.mono HB.out.size))
    replace HI0 := Lib.hid (HI0.out.below b1 HI0.out.lt)
    clear b1 s4 HS HWS i0 i1 i2 i3 i4 i5 i6
    have i1 := HI0.out.cell' (i := 1) rfl
    go_wp2_with fail
    refine (refBecome user ls now H.out HBK.out.1 HG.out hll hn).mono ?_
    rintro e w5 ⟨A5, c5, A6, c6, rfl, u5, l5, b1⟩
    have HZ := Lib.hid (And.intro u5 (And.intro l5 (HB.out.trans (b1.mono HB.out.size))))
    clear b1 u5 l5 HG H HB HI0
    go_wp2_with fail
    exact bodyPost_ret (v := .tuple #[.slice A5 (become lt user ls now b).length c5, .slice A6 (tells user ls now b).length c6, .int .i64 er]) (by simp [results, Tryz.results35, go_sem]) rfl ⟨A5, c5, A6, c6, rfl, HZ.out.1, HZ.out.2.1, HZ.out.2.2⟩
  · by_cases k2 : kind = 2
    · subst k2
      obtain ⟨ls, hls⟩ : ∃ ls, (wrote 2 id st pr un most us).1 = ls := ⟨_, rfl⟩
      obtain ⟨er, her⟩ : ∃ er, (wrote 2 id st pr un most us).2 = er := ⟨_, rfl⟩
      rw [hls, her]
      have hll : ls.length ≤ 900 := by rw [← hls]; have := wrote_le 2 id st pr un most us; omega
      have HLS_ := Lib.hid hls
      have HER_ := Lib.hid her
      clear hls her
      go_enter Tryz.func35, Tryz.ntmps35
      go_wp2_with fail
      have HI0 := Lib.hid (Is.new w 37 #[.int .i64 2, .string user, .int .i64 id, .int .i64 st, .int .i64 pr, .int .u64 ttl, users] rfl)
      have bx := (Below.refl w.heap.size w).alloc (Nat.le_refl _) (.cells #[.int .i64 2, .string user, .int .i64 id, .int .i64 st, .int .i64 pr, .int .u64 ttl, users] 37)
      replace H := Lib.hid (H.out.now bx)
      replace HB := Lib.hid (HB.out.trans (bx.mono HB.out.size))
      generalize w.alloc (.cells #[.int .i64 2, .string user, .int .i64 id, .int .i64 st, .int .i64 pr, .int .u64 ttl, users] 37) = w1 at *
      clear bx
      refine (refFind user HSS.out HT.out H.out HBK.out.1 hn).mono ?_
      rintro e w2 ⟨A2, c2, rfl, s2, b1⟩
      have HS2 := Lib.hid s2
      replace H := Lib.hid (H.out.now b1)
      replace HB := Lib.hid (HB.out.trans (b1.mono HB.out.size))
      replace HI0 := Lib.hid (HI0.out.below b1 HI0.out.lt)
      clear b1 s2
      go_wp2_with fail
      refine (refPurge_ HUS.out HS2.out (by omega)).mono ?_
      rintro e w3 ⟨A3, c3, rfl, s3, b1⟩
      have HS := Lib.hid s3
      replace H := Lib.hid (H.out.now b1)
      replace HB := Lib.hid (HB.out.trans (b1.mono HB.out.size))
      replace HI0 := Lib.hid (HI0.out.below b1 HI0.out.lt)
      clear b1 s3 HS2
      have i0 := HI0.out.cell' (i := 0) rfl
      have i1 := HI0.out.cell' (i := 1) rfl
      have i2 := HI0.out.cell' (i := 2) rfl
      have i3 := HI0.out.cell' (i := 3) rfl
      have i4 := HI0.out.cell' (i := 4) rfl
      have i5 := HI0.out.cell' (i := 5) rfl
      have i6 := HI0.out.cell' (i := 6) rfl
      go_wp2_with fail
      refine (Tick.refAdd now ttl HU1.out HU2.out _).mono ?_
      rintro e w' ⟨rfl, rfl⟩
      rw [HUN.out]
      have hls := HLS_.out
      have her := HER_.out
      clear HLS_ HER_
      have HWS : Hid (BeatTo id un us ls er) := by rw [← hls, ← her]; exact wrote_beat id st pr un most us
      clear hls her
      go_wp2_with fail
      refine (refBeat_ HWS.out HS.out (by omega)).mono ?_
      rintro e w4 ⟨A4, c4, rfl, s4, b1⟩
      have HG := Lib.hid s4
      replace H := Lib.hid (H.out.now b1)
      replace HB := Lib.hid (HB.out.trans (b1.mono HB.out.size))
      replace HI0 := Lib.hid (HI0.out.below b1 HI0.out.lt)
      clear b1 s4 HS HWS i0 i1 i2 i3 i4 i5 i6
      have i1 := HI0.out.cell' (i := 1) rfl
      go_wp2_with fail
      refine (refBecome user ls now H.out HBK.out.1 HG.out hll hn).mono ?_
      rintro e w5 ⟨A5, c5, A6, c6, rfl, u5, l5, b1⟩
      have HZ := Lib.hid (And.intro u5 (And.intro l5 (HB.out.trans (b1.mono HB.out.size))))
      clear b1 u5 l5 HG H HB HI0
      go_wp2_with fail
      exact bodyPost_ret (v := .tuple #[.slice A5 (become lt user ls now b).length c5, .slice A6 (tells user ls now b).length c6, .int .i64 er]) (by simp [results, Tryz.results35, go_sem]) rfl ⟨A5, c5, A6, c6, rfl, HZ.out.1, HZ.out.2.1, HZ.out.2.2⟩
    · by_cases k3 : kind = 3
      · subst k3
        obtain ⟨ls, hls⟩ : ∃ ls, (wrote 3 id st pr un most us).1 = ls := ⟨_, rfl⟩
        obtain ⟨er, her⟩ : ∃ er, (wrote 3 id st pr un most us).2 = er := ⟨_, rfl⟩
        rw [hls, her]
        have hll : ls.length ≤ 900 := by rw [← hls]; have := wrote_le 3 id st pr un most us; omega
        have HLS_ := Lib.hid hls
        have HER_ := Lib.hid her
        clear hls her
        go_enter Tryz.func35, Tryz.ntmps35
        go_wp2_with fail
        have HI0 := Lib.hid (Is.new w 37 #[.int .i64 3, .string user, .int .i64 id, .int .i64 st, .int .i64 pr, .int .u64 ttl, users] rfl)
        have bx := (Below.refl w.heap.size w).alloc (Nat.le_refl _) (.cells #[.int .i64 3, .string user, .int .i64 id, .int .i64 st, .int .i64 pr, .int .u64 ttl, users] 37)
        replace H := Lib.hid (H.out.now bx)
        replace HB := Lib.hid (HB.out.trans (bx.mono HB.out.size))
        generalize w.alloc (.cells #[.int .i64 3, .string user, .int .i64 id, .int .i64 st, .int .i64 pr, .int .u64 ttl, users] 37) = w1 at *
        clear bx
        refine (refFind user HSS.out HT.out H.out HBK.out.1 hn).mono ?_
        rintro e w2 ⟨A2, c2, rfl, s2, b1⟩
        have HS2 := Lib.hid s2
        replace H := Lib.hid (H.out.now b1)
        replace HB := Lib.hid (HB.out.trans (b1.mono HB.out.size))
        replace HI0 := Lib.hid (HI0.out.below b1 HI0.out.lt)
        clear b1 s2
        go_wp2_with fail
        refine (refPurge_ HUS.out HS2.out (by omega)).mono ?_
        rintro e w3 ⟨A3, c3, rfl, s3, b1⟩
        have HS := Lib.hid s3
        replace H := Lib.hid (H.out.now b1)
        replace HB := Lib.hid (HB.out.trans (b1.mono HB.out.size))
        replace HI0 := Lib.hid (HI0.out.below b1 HI0.out.lt)
        clear b1 s3 HS2
        have i0 := HI0.out.cell' (i := 0) rfl
        have i1 := HI0.out.cell' (i := 1) rfl
        have i2 := HI0.out.cell' (i := 2) rfl
        have i3 := HI0.out.cell' (i := 3) rfl
        have i4 := HI0.out.cell' (i := 4) rfl
        have i5 := HI0.out.cell' (i := 5) rfl
        have i6 := HI0.out.cell' (i := 6) rfl
        go_wp2_with fail
        refine (Tick.refAdd now ttl HU1.out HU2.out _).mono ?_
        rintro e w' ⟨rfl, rfl⟩
        rw [HUN.out]
        have hls := HLS_.out
        have her := HER_.out
        clear HLS_ HER_
        rw [wrote_clear] at hls her
        simp only at hls her
        obtain ⟨hv, hh⟩ : ∃ hv, hasS id us = hv := ⟨_, rfl⟩
        rw [hh] at her
        have HH := Lib.hid hh
        have HLS := Lib.hid hls
        have HER := Lib.hid her
        clear hh hls her
        go_wp2_with fail
        refine (refHas_ HH.out HS.out (by omega)).mono ?_
        rintro e w' ⟨rfl, rfl⟩
        cases hv with
        | true =>
          have he : er = 0 := HER.out.symm
          subst he
          go_wp2_with fail
          refine (refClear_ HS.out (by omega)).mono ?_
          rw [HLS.out]
          rintro e w4 ⟨A4, c4, rfl, s4, b1⟩
          have HG := Lib.hid s4
          replace H := Lib.hid (H.out.now b1)
          replace HB := Lib.hid (HB.out.trans (b1.mono HB.out.size))
          replace HI0 := Lib.hid (HI0.out.below b1 HI0.out.lt)
          clear b1 s4 HS i0 i1 i2 i3 i4 i5 i6
          have i1 := HI0.out.cell' (i := 1) rfl
          go_wp2_with fail
          refine (refBecome user ls now H.out HBK.out.1 HG.out hll hn).mono ?_
          rintro e w5 ⟨A5, c5, A6, c6, rfl, u5, l5, b1⟩
          have HZ := Lib.hid (And.intro u5 (And.intro l5 (HB.out.trans (b1.mono HB.out.size))))
          clear b1 u5 l5 HG H HB HI0
          go_wp2_with fail
          exact bodyPost_ret (v := .tuple #[.slice A5 (become lt user ls now b).length c5, .slice A6 (tells user ls now b).length c6, .int .i64 0]) (by simp [results, Tryz.results35, go_sem]) rfl ⟨A5, c5, A6, c6, rfl, HZ.out.1, HZ.out.2.1, HZ.out.2.2⟩
        | false =>
          have he : er = 3 := HER.out.symm
          subst he
          go_wp2_with fail
          refine (refClear_ HS.out (by omega)).mono ?_
          rw [HLS.out]
          rintro e w4 ⟨A4, c4, rfl, s4, b1⟩
          have HG := Lib.hid s4
          replace H := Lib.hid (H.out.now b1)
          replace HB := Lib.hid (HB.out.trans (b1.mono HB.out.size))
          replace HI0 := Lib.hid (HI0.out.below b1 HI0.out.lt)
          clear b1 s4 HS i0 i1 i2 i3 i4 i5 i6
          have i1 := HI0.out.cell' (i := 1) rfl
          go_wp2_with fail
          refine (refBecome user ls now H.out HBK.out.1 HG.out hll hn).mono ?_
          rintro e w5 ⟨A5, c5, A6, c6, rfl, u5, l5, b1⟩
          have HZ := Lib.hid (And.intro u5 (And.intro l5 (HB.out.trans (b1.mono HB.out.size))))
          clear b1 u5 l5 HG H HB HI0
          go_wp2_with fail
          exact bodyPost_ret (v := .tuple #[.slice A5 (become lt user ls now b).length c5, .slice A6 (tells user ls now b).length c6, .int .i64 3]) (by simp [results, Tryz.results35, go_sem]) rfl ⟨A5, c5, A6, c6, rfl, HZ.out.1, HZ.out.2.1, HZ.out.2.2⟩
      · have d1 : (kind == 1) = false := by simpa using k1
        have d2 : (kind == 2) = false := by simpa using k2
        have d3 : (kind == 3) = false := by simpa using k3
        obtain ⟨ls, hls⟩ : ∃ ls, (wrote kind id st pr un most us).1 = ls := ⟨_, rfl⟩
        obtain ⟨er, her⟩ : ∃ er, (wrote kind id st pr un most us).2 = er := ⟨_, rfl⟩
        rw [hls, her]
        have hll : ls.length ≤ 900 := by rw [← hls]; have := wrote_le kind id st pr un most us; omega
        rw [wrote_else _ _ _ _ _ _ k1 k2 k3] at hls her
        simp only at hls her
        subst hls her
        go_enter Tryz.func35, Tryz.ntmps35
        go_wp2_with fail
        have HI0 := Lib.hid (Is.new w 37 #[.int .i64 kind, .string user, .int .i64 id, .int .i64 st, .int .i64 pr, .int .u64 ttl, users] rfl)
        have bx := (Below.refl w.heap.size w).alloc (Nat.le_refl _) (.cells #[.int .i64 kind, .string user, .int .i64 id, .int .i64 st, .int .i64 pr, .int .u64 ttl, users] 37)
        replace H := Lib.hid (H.out.now bx)
        replace HB := Lib.hid (HB.out.trans (bx.mono HB.out.size))
        generalize w.alloc (.cells #[.int .i64 kind, .string user, .int .i64 id, .int .i64 st, .int .i64 pr, .int .u64 ttl, users] 37) = w1 at *
        clear bx
        refine (refFind user HSS.out HT.out H.out HBK.out.1 hn).mono ?_
        rintro e w2 ⟨A2, c2, rfl, s2, b1⟩
        have HS2 := Lib.hid s2
        replace H := Lib.hid (H.out.now b1)
        replace HB := Lib.hid (HB.out.trans (b1.mono HB.out.size))
        replace HI0 := Lib.hid (HI0.out.below b1 HI0.out.lt)
        clear b1 s2
        go_wp2_with fail
        refine (refPurge_ HUS.out HS2.out (by omega)).mono ?_
        rintro e w3 ⟨A3, c3, rfl, s3, b1⟩
        have HS := Lib.hid s3
        replace H := Lib.hid (H.out.now b1)
        replace HB := Lib.hid (HB.out.trans (b1.mono HB.out.size))
        replace HI0 := Lib.hid (HI0.out.below b1 HI0.out.lt)
        clear b1 s3 HS2
        have i0 := HI0.out.cell' (i := 0) rfl
        have i1 := HI0.out.cell' (i := 1) rfl
        have i2 := HI0.out.cell' (i := 2) rfl
        have i3 := HI0.out.cell' (i := 3) rfl
        have i4 := HI0.out.cell' (i := 4) rfl
        have i5 := HI0.out.cell' (i := 5) rfl
        have i6 := HI0.out.cell' (i := 6) rfl
        go_wp2_with fail
        refine (Tick.refAdd now ttl HU1.out HU2.out _).mono ?_
        rintro e w' ⟨rfl, rfl⟩
        rw [HUN.out]
        go_wp2_with fail
        have HG := HS
        refine (refBecome user us now H.out HBK.out.1 HG.out hll hn).mono ?_
        rintro e w5 ⟨A5, c5, A6, c6, rfl, u5, l5, b1⟩
        have HZ := Lib.hid (And.intro u5 (And.intro l5 (HB.out.trans (b1.mono HB.out.size))))
        clear b1 u5 l5 HG H HB HI0
        go_wp2_with fail
        exact bodyPost_ret (v := .tuple #[.slice A5 (become lt user us now b).length c5, .slice A6 (tells user us now b).length c6, .int .i64 0]) (by simp [results, Tryz.results35, go_sem]) rfl ⟨A5, c5, A6, c6, rfl, HZ.out.1, HZ.out.2.1, HZ.out.2.2⟩
end Bk
end Go.Proofs.YtohdlnefgieenaaGreat
/-
  What the reference's (layer 8) Sweep comes to.
-/
namespace Go.Proofs.YtohdlnefgieenaaGreat
open Go.RowKit
namespace Bk
open Go.Law Go.Proofs.YtohdlnefgieenaaGreat.OmapB Door
theorem elemR : ∃ i, Law.Elem Tryz.prog 85 131 i (.agg #[.string .empty, .int .i64 0, .int .i64 0, .int .i64 0, .int .i64 0, .int .i64 0, .int .i64 0]) 7 64 := Law.Elem.of Tryz.underlying85 (by kernel_rfl) rfl (by decide)

set_option maxRecDepth 100000 in
set_option maxHeartbeats 4000000 in
theorem refSweep (now : Int) {w : World} {A : Option Addr} {c : Nat} {b : List (ByteArray × En)} (h : UsersAt w A b) (hR : Rises lt b) (hl : b.length ≤ 400) (hm : ∀ q ∈ b, q.2.1.length ≤ 900) :
    Calls Tryz.prog 29 #[.slice A b.length c, .int .u64 now] w fun e w' => ∃ A1 c1 A2 c2, e = .returned (.tuple #[.slice A1 (sweepB now b).length c1, .slice A2 (sweepC now b).length c2]) ∧ UsersAt w' A1 (sweepB now b) ∧ Lain 131 w' A2 (flatC (sweepC now b)) ∧ Below w.heap.size w w' := by
  have HU0 := Lib.hid h
  obtain ⟨xs, hx, hin, hxb⟩ := h
  have hxl : b.length = xs.length := by rw [← hxb, mapV_length]
  have HX := Lib.hid hx
  have HIN := Lib.hid hin
  have HXB := Lib.hid hxb
  have HR := Lib.hid hR
  have HM := Lib.hid hm
  have HXL := Lib.hid hxl
  have hl4 : xs.length ≤ 400 := by omega
  obtain ⟨i0, hE⟩ := elemR
  have HE := Lib.hid hE
  have HB := Lib.hid (Below.refl w.heap.size w)
  rw [hxl]
  clear hx hin hxb hR hm hE hxl
  go_enter Tryz.func29, Tryz.ntmps29
  go_wp2_with fail
  go_loopw [6, 7, 8] (fun av ov iv wr => ∃ (j : Nat) (A2 : Option Addr) (c2 : Nat), j ≤ xs.length ∧ iv = .int .i64 j ∧ ov = .slice A2 (foldB lt now b (b.take j)).1.length c2 ∧ UsersAt wr A2 (foldB lt now b (b.take j)).1 ∧ wr.ownsRow w.heap.size 131 7 av (foldB lt now b (b.take j)).2.length (flatC (foldB lt now b (b.take j)).2) ∧ Below w.heap.size w wr) (fun _ _ iv _ => xs.length - (intOf iv).toNat)
  case atStart => exact ⟨0, A, c, Nat.zero_le _, rfl, by rw [List.take_zero]; show _ = Value.slice A b.length c; rw [HXL.out], by rw [List.take_zero]; exact HU0.out, by rw [List.take_zero]; exact World.ownsRow_nil _ _ _ _, Below.refl _ _⟩
  case round =>
    obtain ⟨j, A2, c2, hj, rfl, rfl, hu, ho, hb⟩ := hrel
    obtain ⟨A4, c4, rfl, _⟩ := own_shape ho
    have HUW := Lib.hid hu
    have HO := Lib.hid ho
    have HBW := Lib.hid hb
    have sz := hb.size
    clear hu ho hb HU0
    by_cases hlt : j < xs.length
    · have HNX : Hid (foldB lt now b (b.take (j + 1)) = (become lt xs[j].1 (live now xs[j].2.ss) now (foldB lt now b (b.take j)).1, (foldB lt now b (b.take j)).2 ++ tells xs[j].1 (live now xs[j].2.ss) now (foldB lt now b (b.take j)).1)) := by
        have e1 : b.take (j + 1) = b.take j ++ [(xs[j].1, xs[j].2.en)] := by
          rw [← HXB.out]
          unfold mapV
          rw [List.take_succ_eq_append_getElem (by simpa using hlt)]
          simp
        show _ = _
        rw [e1, foldB_snoc]
        rfl
      have HFR : Hid (Rises lt (foldB lt now b (b.take j)).1) := foldB_rises lt tri now _ HR.out
      have hfl : (foldB lt now b (b.take j)).1.length ≤ 800 := by
        have h1 := foldB_len lt now (b.take j) b
        have h2 := HXL.out
        simp at h1
        omega
      have hfc : (foldB lt now b (b.take j)).2.length ≤ 400 := by
        have h1 := foldB_told lt now (b.take j) b
        simp at h1
        omega
      have hvl : xs[j].2.ss.length ≤ 900 := HM.out (xs[j].1, xs[j].2.en) (by rw [← HXB.out]; exact List.mem_map.2 ⟨_, List.getElem_mem hlt, rfl⟩)
      have hvi := (HIN.out _ (List.getElem_mem hlt)).keeps (Keeps.of_below HBW.out)
      obtain ⟨gb, off, rfl, _, lb, y0, y1, _, _, _⟩ := HX.out.seq.us hlt
      have lr : gb < wr.heap.size := by omega
      generalize xs[j] = q at *
      obtain ⟨nm, vA, vn, vc, vs, vp, vl, vss⟩ := q
      simp only at y0 y1 HNX hvl hvi
      have hvn : vn = vss.length := hvi.1
      subst hvn
      have HVL : Hid (Lain 138 wr vA (flatS vss)) := hvi.2
      have q0 := (HBW.out.cell (p := ⟨gb, off + j * 5, none⟩) lb).trans y0
      have q1 := (HBW.out.cell (p := ⟨gb, off + j * 5 + 1, none⟩) lb).trans y1
      clear hvi
      generalize foldB lt now b (b.take j) = fb at *
      obtain ⟨fbb, fbc⟩ := fb
      simp only at HNX HFR hfl hfc HUW HO
      have hll : (live now vss).length ≤ 900 := Nat.le_trans (live_length now vss) hvl
      have HPU : Hid (∀ W, Kept wr W → Calls Tryz.prog 59 #[.slice vA vss.length vc, .int .u64 now] W fun e w' => ∃ A c, e = .returned (.slice A (live now vss).length c) ∧ Lain 138 w' A (flatS (live now vss)) ∧ Below W.heap.size W w') := fun W K => refPurge_ rfl (HVL.out.now K) hvl
      have HBC : Hid (∀ W A5 c5, Kept wr W → Lain 138 W A5 (flatS (live now vss)) → Calls Tryz.prog 58 #[.slice A2 fbb.length c2, .string nm, .slice A5 (live now vss).length c5, .int .u64 now] W fun e w' => ∃ A1 c1 A2 c2, e = .returned (.tuple #[.slice A1 (become lt nm (live now vss) now fbb).length c1, .slice A2 (tells nm (live now vss) now fbb).length c2]) ∧ UsersAt w' A1 (become lt nm (live now vss) now fbb) ∧ Lain 131 w' A2 (flatC (tells nm (live now vss) now fbb)) ∧ Below W.heap.size W w') := fun W A5 c5 K hL => refBecome nm (live now vss) now (HUW.out.now K) HFR.out hL hll (by omega)
      have hnc := tells_le nm (live now vss) now fbb
      generalize become lt nm (live now vss) now fbb = nb at *
      generalize tells nm (live now vss) now fbb = nc at *
      generalize live now vss = ls at *
      go_wp2_with fail
      refine wp_region_held_drew (S := fun w' => w'.cell? ⟨gb, off + j * 5, none⟩ = some (.string nm) ∧ w'.cell? ⟨gb, off + j * 5 + 1, none⟩ = some (.slice vA vss.length vc)) (by kernel_rfl) ⟨q0, q1⟩ (fun hS0 => ?_)
      refine wpAnyH_take (i := 0) (oi := { dst := some 19, op := .move (.tmp 7), type := _, pos := _, after := _, guard := _ }) (v := .slice A2 fbb.length c2) rfl (by kernel_rfl) (by kernel_rfl) (by kernel_rfl) (fun _ _ _ h => h) (Or.inl ⟨by rfl, ?_⟩) hS0 ?_
      · intro w' hSw
        go_simp
      try simp only [Act.put, List.setIfInBounds_toArray, List.set_cons_zero, List.set_cons_succ]
      refine wpAnyH_take (i := 1) (oi := { dst := some 20, op := .move (.tmp 0), type := _, pos := _, after := _, guard := _ }) (v := .slice (some ⟨gb, off, none⟩) xs.length c) rfl (by kernel_rfl) (by kernel_rfl) (by kernel_rfl) (fun _ _ _ h => h) (Or.inl ⟨by rfl, ?_⟩) hS0 ?_
      · intro w' hSw
        go_simp
      try simp only [Act.put, List.setIfInBounds_toArray, List.set_cons_zero, List.set_cons_succ]
      refine wpAnyH_take (i := 2) (oi := { dst := some 21, op := .move (.tmp 8), type := _, pos := _, after := _, guard := _ }) (v := .int .i64 (j : Int)) rfl (by kernel_rfl) (by kernel_rfl) (by kernel_rfl) (fun _ _ _ h => h) (Or.inl ⟨by rfl, ?_⟩) hS0 ?_
      · intro w' hSw
        go_simp
      try simp only [Act.put, List.setIfInBounds_toArray, List.set_cons_zero, List.set_cons_succ]
      refine wpAnyH_take (i := 3) (oi := { dst := some 22, op := .indexAddr 84 (.tmp 20) (.tmp 21), type := _, pos := _, after := _, guard := _ }) (v := .pointer (some ⟨gb, off + j * 5, none⟩)) rfl (by kernel_rfl) (by kernel_rfl) (by kernel_rfl) (fun _ _ _ h => h) (Or.inl ⟨by rfl, ?_⟩) hS0 ?_
      · intro w' hSw
        go_simp
      try simp only [Act.put, List.setIfInBounds_toArray, List.set_cons_zero, List.set_cons_succ]
      refine wpAnyH_take (i := 4) (oi := { dst := some 23, op := .fieldAddr 107 (.tmp 22) 0, type := _, pos := _, after := _, guard := _ }) (v := .pointer (some ⟨gb, off + j * 5, none⟩)) rfl (by kernel_rfl) (by kernel_rfl) (by kernel_rfl) (fun _ _ _ h => h) (Or.inl ⟨by rfl, ?_⟩) hS0 ?_
      · intro w' hSw
        go_simp
      try simp only [Act.put, List.setIfInBounds_toArray, List.set_cons_zero, List.set_cons_succ]
      refine wpAnyH_take (i := 5) (oi := { dst := some 24, op := .load 9 (.tmp 23), type := _, pos := _, after := _, guard := _ }) (v := .string nm) rfl (by kernel_rfl) (by kernel_rfl) (by kernel_rfl) (fun _ _ _ h => h) (Or.inl ⟨by rfl, ?_⟩) hS0 ?_
      · intro w' hSw
        go_simp
      try simp only [Act.put, List.setIfInBounds_toArray, List.set_cons_zero, List.set_cons_succ]
      refine wpAnyH_take (i := 6) (oi := { dst := some 25, op := .move (.tmp 0), type := _, pos := _, after := _, guard := _ }) (v := .slice (some ⟨gb, off, none⟩) xs.length c) rfl (by kernel_rfl) (by kernel_rfl) (by kernel_rfl) (fun _ _ _ h => h) (Or.inl ⟨by rfl, ?_⟩) hS0 ?_
      · intro w' hSw
        go_simp
      try simp only [Act.put, List.setIfInBounds_toArray, List.set_cons_zero, List.set_cons_succ]
      refine wpAnyH_take (i := 7) (oi := { dst := some 26, op := .move (.tmp 8), type := _, pos := _, after := _, guard := _ }) (v := .int .i64 (j : Int)) rfl (by kernel_rfl) (by kernel_rfl) (by kernel_rfl) (fun _ _ _ h => h) (Or.inl ⟨by rfl, ?_⟩) hS0 ?_
      · intro w' hSw
        go_simp
      try simp only [Act.put, List.setIfInBounds_toArray, List.set_cons_zero, List.set_cons_succ]
      refine wpAnyH_take (i := 8) (oi := { dst := some 27, op := .indexAddr 84 (.tmp 25) (.tmp 26), type := _, pos := _, after := _, guard := _ }) (v := .pointer (some ⟨gb, off + j * 5, none⟩)) rfl (by kernel_rfl) (by kernel_rfl) (by kernel_rfl) (fun _ _ _ h => h) (Or.inl ⟨by rfl, ?_⟩) hS0 ?_
      · intro w' hSw
        go_simp
      try simp only [Act.put, List.setIfInBounds_toArray, List.set_cons_zero, List.set_cons_succ]
      refine wpAnyH_take (i := 9) (oi := { dst := some 28, op := .fieldAddr 107 (.tmp 27) 1, type := _, pos := _, after := _, guard := _ }) (v := .pointer (some ⟨gb, off + j * 5 + 1, none⟩)) rfl (by kernel_rfl) (by kernel_rfl) (by kernel_rfl) (fun _ _ _ h => h) (Or.inl ⟨by rfl, ?_⟩) hS0 ?_
      · intro w' hSw
        go_simp
      try simp only [Act.put, List.setIfInBounds_toArray, List.set_cons_zero, List.set_cons_succ]
      refine wpAnyH_take (i := 10) (oi := { dst := some 29, op := .load 105 (.tmp 28), type := _, pos := _, after := _, guard := _ }) (v := .slice vA vss.length vc) rfl (by kernel_rfl) (by kernel_rfl) (by kernel_rfl) (fun _ _ _ h => h) (Or.inl ⟨by rfl, ?_⟩) hS0 ?_
      · intro w' hSw
        go_simp
      try simp only [Act.put, List.setIfInBounds_toArray, List.set_cons_zero, List.set_cons_succ]
      refine wpAnyH_take (i := 11) (oi := { dst := some 30, op := .move (.tmp 1), type := _, pos := _, after := _, guard := _ }) (v := .int .u64 now) rfl (by kernel_rfl) (by kernel_rfl) (by kernel_rfl) (fun _ _ _ h => h) (Or.inl ⟨by rfl, ?_⟩) hS0 ?_
      · intro w' hSw
        go_simp
      try simp only [Act.put, List.setIfInBounds_toArray, List.set_cons_zero, List.set_cons_succ]
      refine wpAnyH_take (i := 13) (oi := { dst := some 32, op := .move (.tmp 1), type := _, pos := _, after := _, guard := _ }) (v := .int .u64 now) rfl (by kernel_rfl) (by kernel_rfl) (by kernel_rfl) (fun _ _ _ h => h) (Or.inl ⟨by rfl, ?_⟩) hS0 ?_
      · intro w' hSw
        go_simp
      try simp only [Act.put, List.setIfInBounds_toArray, List.set_cons_zero, List.set_cons_succ]
      refine wpAnyH_ready (rs := [12]) (by kernel_rfl) (by simp) ?_
      refine AllReadyH.cons (o := { dst := some 31, op := .call { callee := .value (.func 59), args := #[.tmp 29, .tmp 30], argTypes := #[105, 22] }, type := _, pos := _, after := _, guard := _ }) rfl (fun K hK => ?_) AllReadyH.nil
      go_simp
      refine Calls.mono (HPU.out _ (Kept.drew wr)) ?_
      rintro e w5 ⟨A5, c5, rfl, l5, b1⟩
      have b2 : Below wr.heap.size wr w5 := Below.trans (Kept.drew wr) (Below.mono b1 (Nat.le_refl _))
      have lr5 : gb < w5.heap.size := Nat.lt_of_lt_of_le lr b2.size
      go_wp2_with fail
      refine hK.out _ _ (by obtain ⟨y1, y2⟩ := hS0; exact ⟨(b1.cell (p := ⟨gb, off + j * 5, none⟩) lr).trans y1, (b1.cell (p := ⟨gb, off + j * 5 + 1, none⟩) lr).trans y2⟩) (fun hS1 => ?_)
      clear hK K
      try simp only [Act.put, List.setIfInBounds_toArray, List.set_cons_zero, List.set_cons_succ]
      refine wpAnyH_ready (rs := [14]) (by kernel_rfl) (by simp) ?_
      refine AllReadyH.cons (o := { dst := some 33, op := .call { callee := .value (.func 58), args := #[.tmp 19, .tmp 24, .tmp 31, .tmp 32], argTypes := #[84, 9, 105, 22] }, type := _, pos := _, after := _, guard := _ }) rfl (fun K hK => ?_) AllReadyH.nil
      go_simp
      refine Calls.mono (HBC.out _ _ _ b2 l5) ?_
      rintro e w6 ⟨A6, c6, A7, c7, rfl, u6, l6, b3⟩
      have b4 : Below wr.heap.size wr w6 := Below.trans b2 (Below.mono b3 b2.size)
      go_wp2_with fail
      refine hK.out _ _ (by obtain ⟨y1, y2⟩ := hS1; exact ⟨(b3.cell (p := ⟨gb, off + j * 5, none⟩) lr5).trans y1, (b3.cell (p := ⟨gb, off + j * 5 + 1, none⟩) lr5).trans y2⟩) (fun hS2 => ?_)
      clear hK K
      try simp only [Act.put, List.setIfInBounds_toArray, List.set_cons_zero, List.set_cons_succ]
      refine wpAnyH_take (i := 15) (oi := { dst := some 18, op := .move (.tmp 33), type := _, pos := _, after := _, guard := _ }) (v := .tuple #[.slice A6 nb.length c6, .slice A7 nc.length c7]) rfl (by kernel_rfl) (by kernel_rfl) (by kernel_rfl) (fun _ _ _ h => h) (Or.inl ⟨by rfl, ?_⟩) hS2 ?_
      · intro w' hSw
        go_simp
      try simp only [Act.put, List.setIfInBounds_toArray, List.set_cons_zero, List.set_cons_succ]
      refine wpAnyH_take (i := 16) (oi := { dst := some 34, op := .extract (.tmp 18) 0, type := _, pos := _, after := _, guard := _ }) (v := .slice A6 nb.length c6) rfl (by kernel_rfl) (by kernel_rfl) (by kernel_rfl) (fun _ _ _ h => h) (Or.inl ⟨by rfl, ?_⟩) hS2 ?_
      · intro w' hSw
        go_simp
      try simp only [Act.put, List.setIfInBounds_toArray, List.set_cons_zero, List.set_cons_succ]
      refine wpAnyH_take (i := 17) (oi := { dst := some 35, op := .extract (.tmp 18) 1, type := _, pos := _, after := _, guard := _ }) (v := .slice A7 nc.length c7) rfl (by kernel_rfl) (by kernel_rfl) (by kernel_rfl) (fun _ _ _ h => h) (Or.inl ⟨by rfl, ?_⟩) hS2 ?_
      · intro w' hSw
        go_simp
      try simp only [Act.put, List.setIfInBounds_toArray, List.set_cons_zero, List.set_cons_succ]
      refine wpAnyH_take (i := 18) (oi := { dst := some 9, op := .assign (.tmp 34), type := _, pos := _, after := _, guard := _ }) (v := .slice A6 nb.length c6) rfl (by kernel_rfl) (by kernel_rfl) (by kernel_rfl) (fun _ _ _ h => h) (Or.inl ⟨by rfl, ?_⟩) hS2 ?_
      · intro w' hSw
        go_simp
      try simp only [Act.put, List.setIfInBounds_toArray, List.set_cons_zero, List.set_cons_succ]
      refine wpAnyH_take (i := 19) (oi := { dst := some 10, op := .assign (.tmp 35), type := _, pos := _, after := _, guard := _ }) (v := .slice A7 nc.length c7) rfl (by kernel_rfl) (by kernel_rfl) (by kernel_rfl) (fun _ _ _ h => h) (Or.inl ⟨by rfl, ?_⟩) hS2 ?_
      · intro w' hSw
        go_simp
      try simp only [Act.put, List.setIfInBounds_toArray, List.set_cons_zero, List.set_cons_succ]
      refine wpAnyH_done (by kernel_rfl) ?_ _
      have HU6 := Lib.hid u6
      have HL6 := Lib.hid l6
      have HO6 := Lib.hid (own_below HO.out b4)
      have HB6 := Lib.hid (HBW.out.trans (b4.mono HBW.out.size))
      have sz6 := HB6.out.size
      clear u6 l6 l5 b1 b2 b3 b4 hS0 hS1 hS2 lr5 HPU HBC HVL HUW HO HBW q0 q1 y0 y1
      go_wp2_with (at_builtin; refine Law.wpList_append_seq _ w.heap.size 85 rfl _ _ rfl HE.out _ _ _ rfl HO6.out 0 _ A7 nc.length c7 (flatC nc) rfl (flatC_length nc) HL6.out.seq (flatC_one nc) (by unfold maxLen; omega) (by omega) (by omega) ?_; intro v8 w8 hown hgrow; obtain ⟨A8, c8, rfl, _⟩ := own_shape hown; have HO8 := Lib.hid hown; have HU8 := Lib.hid (HU6.out.keeps (Keeps.grown HO6.out hgrow (by decide)) (Keeps.grown HO6.out hgrow (by decide))); have HB8 := Lib.hid (HB6.out.grown hgrow (by omega) (fun g hg => (HO6.out.lt g hg).1)); clear hown hgrow)
      go_roundw
      case rel =>
        refine ⟨j + 1, A6, c6, by omega, by go_num, by rw [HNX.out], by rw [HNX.out]; exact HU8.out, ?_, HB8.out⟩
        rw [HNX.out]
        simpa [flatC_app] using HO8.out
      case measure => simp [intOf]; omega
    · have e1 : b.take j = b := List.take_of_length_le (by have := HXL.out; omega)
      rw [e1, foldB_all lt tri now HR.out] at HUW HO ⊢
      simp only at HUW HO
      go_wp2_with fail
      exact bodyPost_ret (v := .tuple #[.slice A2 (sweepB now b).length c2, .slice A4 (sweepC now b).length c4]) (by simp [results, Tryz.results29, go_sem]) rfl ⟨A2, c2, A4, c4, rfl, HUW.out, Lain.own HO.out, HBW.out⟩
end Bk
end Go.Proofs.YtohdlnefgieenaaGreat
/-
  What the reference's (layer 9) Watch, Unwatch and Drain come to.
-/
namespace Go.Proofs.YtohdlnefgieenaaGreat
open Go.RowKit Go.Shelf
attribute [local go_sem] Oper.semAt_some
namespace Feed
open Go.Law
/-- only block r has turned; what is of R' was of R, or is new -/
structure RWent (w : World) (R : Nat → Prop) (r : Nat) (w' : World) (R' : Nat → Prop) : Prop where
  touch : Law.Touch w w' (fun k => k = r)
  new : ∀ n, R' n → R n ∨ w.heap.size ≤ n
theorem RWent.of_below {w w' : World} {R : Nat → Prop} {r : Nat} (hb : Below w.heap.size w w') : RWent w R r w' R := ⟨Law.Touch.of_below hb _, fun _ h => .inl h⟩
theorem RWent.trans {w w' w'' : World} {R R' R'' : Nat → Prop} {r : Nat} (h : RWent w R r w' R') (h' : RWent w' R' r w'' R'') : RWent w R r w'' R'' :=
  ⟨h.touch.trans h'.touch (fun _ hk => .inl hk), fun n hn => (h'.new n hn).elim (h.new n) (fun hl => .inr (Nat.le_trans h.touch.size hl))⟩
def RDone (w : World) (R : Nat → Prop) (r : Nat) (room : Int) (ps : List Pa) (qs : Nat → List Ev) (ls : Nat → Bool) (e : Ending) (w' : World) : Prop :=
  e = .returned (.tuple #[]) ∧ ∃ R', RefAt w' R' r room ps qs ls ∧ RWent w R r w' R'
theorem elemP : ∃ i, Law.Elem Tryz.prog 77 143 i (.agg #[.int .i64 0, .string ⟨#[]⟩]) 2 24 := Law.Elem.of Tryz.underlying77 (by kernel_rfl) rfl (by decide)
theorem own_emptyP (w : World) {base : Nat} (e : TypeId) (hb : base ≤ w.heap.size) : (w.alloc (.cells #[] e)).ownsRow base e 2 (.slice (some ⟨w.heap.size, 0, none⟩) 0 0) 0 [] :=
  ⟨rfl, .inr ⟨w.heap.size, 0, #[], rfl, hb, heap_alloc_new w _, Nat.le_refl _, Nat.zero_le _, rfl, rfl⟩⟩
/-- the pairs are put -/
theorem RefV.pairs {w w' : World} {R : Nat → Prop} {r : Nat} {room : Int} {ps ps' : List Pa} {qs : Nat → List Ev} {ls : Nat → Bool} {vp : Value} {vq : Nat → Value} (h : RefV w R r room ps qs ls vp vq) (hb : Below w.heap.size w w') {A : Option Addr} {c : Nat} (hs : Seq w' w.heap.size w'.heap.size A (flatP ps')) :
    RefAt (w'.setCell ⟨r, 1, none⟩ (.slice A ps'.length c)) (fun n => R n ∨ w.heap.size ≤ n ∧ n < w'.heap.size) r room ps' qs ls ∧ RWent w R r (w'.setCell ⟨r, 1, none⟩ (.slice A ps'.length c)) (fun n => R n ∨ w.heap.size ≤ n ∧ n < w'.heap.size) := by
  have h1 := h.below hb
  have hlt := h.box.lt
  have hout : ¬ (R r ∨ w.heap.size ≤ r ∧ r < w'.heap.size) := fun h' => h'.elim h.out (fun h' => by omega)
  have ht := Law.Touch.store (T := fun k => k = r) w' ⟨r, 1, none⟩ (.slice A ps'.length c) rfl
  refine ⟨⟨.slice A ps'.length c, vq, h1.box.set 1 _ rfl, hout, fun n hn => ?_, ⟨A, c, rfl, ?_⟩, fun k hk => ?_, h.cap⟩, ⟨(Law.Touch.of_below hb _).trans ht (fun _ hk => .inl hk), fun n hn => hn.imp id And.left⟩⟩
  · have : n < w'.heap.size := hn.elim (h1.ok n) And.right
    simpa using this
  · exact (LieR.of_seq (R := fun n => R n ∨ w.heap.size ≤ n ∧ n < w'.heap.size) hs (fun n h1 h2 => .inr ⟨h1, h2⟩)).touch ht (fun n hn e => hout (e ▸ hn)) (fun n hn => hn.elim (h1.ok n) And.right)
  · obtain ⟨A, c, e, hl⟩ := h1.qu k hk
    exact ⟨A, c, e, (hl.touch ht (fun n hn e => h.out (e ▸ hn)) h1.ok).mono (fun n hn => .inl hn)⟩
set_option maxRecDepth 100000 in
set_option maxHeartbeats 2000000 in
theorem rWatch_new {w : World} {R : Nat → Prop} {r k : Nat} {room : Int} {ps : List Pa} {qs : Nat → List Ev} {ls : Nat → Bool} (h : RefAt w R r room ps qs ls) (hl : ps.length ≤ 999) (hk : k < 8) (u : ByteArray) (hn : ((k : Int), u) ∉ ps) :
    Calls Tryz.prog 38 #[.pointer (some ⟨r, 0, none⟩), .int .i64 (k : Int), .string u] w (RDone w R r room (ps ++ [((k : Int), u)]) qs ls) := by
  have HW := Lib.hid (rWatching h (by omega) (k : Int) u (res := false) ⟨fun h => Bool.noConfusion h, fun h => absurd h hn⟩)
  have HA := Lib.hid h
  obtain ⟨i0, hE⟩ := elemP
  have HE := Lib.hid hE
  have d1 : decide ((0 : Int) ≤ (k : Int)) = true := by simp
  have d2 : decide ((k : Int) < 8) = true := by simp; omega
  clear h hn hE
  go_enter Tryz.func38, Tryz.ntmps38
  go_wp2_with fail
  refine HW.out.mono ?_
  rintro e w1 ⟨rfl, hb⟩
  have HA1 := Lib.hid (HA.out.below hb)
  have HB1 := Lib.hid hb
  clear hb HW HA
  obtain ⟨vp, vq, hv⟩ := HA1.out
  obtain ⟨A, c, rfl, hp⟩ := hv.pr
  have HV := Lib.hid hv
  have HP := Lib.hid (hp.seq hv.ok)
  have c1 : w1.cell? ⟨r, 1, none⟩ = some (.slice A ps.length c) := hv.box.cell' rfl
  have l1 := hv.box.lt
  have HO := Lib.hid (own_emptyP w1 143 (base := w1.heap.size) (Nat.le_refl _))
  have HS1 := Lib.hid ((hp.seq hv.ok).alloc (Nat.le_refl _) (.cells #[] 143))
  have HB0 := Lib.hid ((Below.refl w1.heap.size w1).alloc (Nat.le_refl _) (.cells #[] 143))
  clear hv hp HA1
  go_wp2_with (first
    | (at_builtin; refine Law.wpList_append_seq _ w1.heap.size 77 rfl _ _ rfl HE.out _ 0 [] rfl HO.out 0 w1.heap.size A ps.length c (flatP ps) rfl (flatP_length ps) HS1.out (flatP_one _) (by unfold maxLen; omega) (by omega) (by simp) ?_; intro v1 z1 hown hg; have hb1 := HB0.out.grown hg (by simp) (fun k hk => (HO.out.lt k hk).1); have HB2 := Lib.hid hb1; have hown1 : z1.ownsRow w1.heap.size 143 2 v1 ps.length (flatP ps) := (by simpa using hown); have HO1 := Lib.hid hown1; have sz1 := hb1.size; obtain ⟨D1, cd1, hD1, hcd1⟩ := own_shape HO1.out; subst hD1; clear hown hg hb1 hown1)
    | (at_builtin; refine wpList_append_own _ rfl _ _ 77 rfl w1.heap.size 143 i0 (.agg #[.int .i64 0, .string ⟨#[]⟩]) 2 24 HE.out.ut HE.out.info HE.out.zero HE.out.sz HE.out.by_ HE.out.cells HE.out.pos _ _ _ rfl (HO1.out.alloc _) ⟨z1.heap.size, 0, none⟩ 1 1 (cellsP ((k : Int), u)) rfl rfl (new_P z1 ((k : Int), u) _ rfl) (one_P _) (by unfold maxLen; omega) (by omega) (by simp; omega) ?_; intro v2 z2 hown hg _; have hb2 := (HB2.out.alloc sz1 _).grown hg (by simp; omega) (fun k hk => (HO1.out.lt k hk).1); have HB3 := Lib.hid hb2; have HO2 := Lib.hid hown; have I2 := HV.out.box.below hb2 HV.out.box.lt; have c2 : z2.cell? ⟨r, 1, none⟩ = some (.slice A ps.length c) := I2.cell' rfl; have f2 := I2.frozen 1; have l2 := I2.lt; obtain ⟨g2, cap2, rfl⟩ := ownsRow_succ hown; clear hown hg hb2 I2))
  go_end0
  have hsq : Seq z2 w1.heap.size z2.heap.size (some ⟨g2, 0, none⟩) (flatP (ps ++ [((k : Int), u)])) := by rw [flatP_snoc]; exact Seq.own HO2.out
  have hfin := HV.out.pairs HB3.out (ps' := ps ++ [((k : Int), u)]) (c := cap2) hsq
  rw [List.length_append] at hfin
  exact ⟨rfl, _, hfin.1, (RWent.of_below HB1.out).trans hfin.2⟩
/-- nothing is done -/
theorem rWatch_no {w : World} {R : Nat → Prop} {r : Nat} {room : Int} {ps : List Pa} {qs : Nat → List Ev} {ls : Nat → Bool} {who : Int} (h : RefAt w R r room ps qs ls) (hw : ¬ (0 ≤ who ∧ who < 8)) (u : ByteArray) :
    Calls Tryz.prog 38 #[.pointer (some ⟨r, 0, none⟩), .int .i64 who, .string u] w (RDone w R r room ps qs ls) := by
  by_cases h0 : 0 ≤ who
  · have d1 : decide ((0 : Int) ≤ who) = true := by simp; omega
    have d2 : decide (who < 8) = false := by simp; omega
    have HA := Lib.hid h
    clear h hw
    go_enter Tryz.func38, Tryz.ntmps38
    go_wp2_with fail
    go_end0
    exact ⟨rfl, R, HA.out, RWent.of_below (Below.refl _ _)⟩
  · have d1 : decide ((0 : Int) ≤ who) = false := by simp; omega
    have HA := Lib.hid h
    clear h hw
    go_enter Tryz.func38, Tryz.ntmps38
    go_wp2_with fail
    go_end0
    exact ⟨rfl, R, HA.out, RWent.of_below (Below.refl _ _)⟩
set_option maxHeartbeats 1000000 in
theorem rWatch_old {w : World} {R : Nat → Prop} {r k : Nat} {room : Int} {ps : List Pa} {qs : Nat → List Ev} {ls : Nat → Bool} (h : RefAt w R r room ps qs ls) (hl : ps.length ≤ 999) (hk : k < 8) (u : ByteArray) (hn : ((k : Int), u) ∈ ps) :
    Calls Tryz.prog 38 #[.pointer (some ⟨r, 0, none⟩), .int .i64 (k : Int), .string u] w (RDone w R r room ps qs ls) := by
  have HW := Lib.hid (rWatching h (by omega) (k : Int) u (res := true) ⟨fun _ => hn, fun _ => rfl⟩)
  have HA := Lib.hid h
  have d1 : decide ((0 : Int) ≤ (k : Int)) = true := by simp
  have d2 : decide ((k : Int) < 8) = true := by simp; omega
  clear h hn
  go_enter Tryz.func38, Tryz.ntmps38
  go_wp2_with fail
  refine HW.out.mono ?_
  rintro e w1 ⟨rfl, hb⟩
  have HA1 := Lib.hid (HA.out.below hb)
  have HB1 := Lib.hid hb
  clear hb HW HA
  go_wp2_with fail
  go_end0
  exact ⟨rfl, R, HA1.out, RWent.of_below HB1.out⟩
set_option maxRecDepth 100000 in
set_option maxHeartbeats 2000000 in
theorem rUnwatch {w : World} {R : Nat → Prop} {r : Nat} {room : Int} {ps : List Pa} {qs : Nat → List Ev} {ls : Nat → Bool} (h : RefAt w R r room ps qs ls) (hl : ps.length ≤ 1000) (who : Int) (u : ByteArray) :
    Calls Tryz.prog 39 #[.pointer (some ⟨r, 0, none⟩), .int .i64 who, .string u] w (RDone w R r room (ps.filter fun p => !decide (p = (who, u))) qs ls) := by
  obtain ⟨i0, hE⟩ := elemP
  have HE := Lib.hid hE
  obtain ⟨vp, vq, hv⟩ := h
  obtain ⟨A, c, rfl, hp⟩ := hv.pr
  have HV := Lib.hid hv
  have HP := Lib.hid (hp.seq hv.ok)
  clear hv hp hE
  go_enter Tryz.func39, Tryz.ntmps39
  go_wp2_with fail
  go_loopw [6, 7] (fun vo i wr => ∃ j : Nat, j ≤ ps.length ∧ i = .int .i64 j ∧ wr.ownsRow w.heap.size 143 2 vo ((ps.take j).filter fun p => !decide (p = (who, u))).length (flatP ((ps.take j).filter fun p => !decide (p = (who, u)))) ∧ Below w.heap.size w wr) (fun _ i _ => ps.length - (intOf i).toNat)
  case atStart => exact ⟨0, Nat.zero_le _, rfl, World.ownsRow_nil _ _ _ _, Below.refl _ _⟩
  case round =>
    obtain ⟨j, hj, rfl, hO, hB⟩ := hrel
    have I1 := HV.out.box.below hB HV.out.box.lt
    have c1 : World.cell? _ ⟨r, 1, none⟩ = some (.slice A ps.length c) := I1.cell' rfl
    have f1 := I1.frozen 1
    have l1 := I1.lt
    have HO := Lib.hid hO
    have HB := Lib.hid hB
    have sz := hB.size
    have hfl : ((ps.take j).filter fun p => !decide (p = (who, u))).length ≤ 1000 := Nat.le_trans (List.length_filter_le ..) (by simp; omega)
    clear hO hB I1
    by_cases hlt : j < ps.length
    · have d1 : decide ((j : Int) < (ps.length : Int)) = true := by simp; omega
      obtain ⟨g, o, rfl, _, hg, p0, p1⟩ := (HP.out.below HB.out).pa hlt
      have HTK := Lib.hid (List.take_succ_eq_append_getElem hlt)
      have lg := Nat.lt_of_lt_of_le hg sz
      generalize ps[j] = p at *
      obtain ⟨a, y⟩ := p
      simp only at p0 p1
      by_cases ha : a = who
      · by_cases hy : y = u
        · subst ha hy
          have e1 : (a != a) = false := by simp
          have e2 : (y.toList != y.toList) = false := by simp
          have e3 : (y.toList == y.toList) = true := by simp
          have HF : Hid ((ps.take (j + 1)).filter (fun p => !decide (p = (a, y))) = (ps.take j).filter (fun p => !decide (p = (a, y)))) := by show _ = _; rw [HTK.out, List.filter_append, List.filter_cons_of_neg (by simp)]; simp
          generalize (ps.take j).filter (fun p => !decide (p = (a, y))) = fs at *
          obtain ⟨D, cd, rfl, hcd⟩ := own_shape HO.out
          go_wp2_with fail
          go_roundw
          case rel => exact ⟨j + 1, by omega, by go_num, by rw [HF.out]; exact HO.out, HB.out⟩
          case measure => simp [intOf]; omega
        · subst ha
          have hne : ¬ (a, y) = (a, u) := fun e => hy (congrArg Prod.snd e)
          have e1 : (a != a) = false := by simp
          have e2 : (y.toList != u.toList) = true := by simpa using fun e => hy (OmapU.ext e)
          have e3 : (y.toList == u.toList) = false := by simpa using fun e => hy (OmapU.ext e)
          have HF : Hid ((ps.take (j + 1)).filter (fun p => !decide (p = (a, u))) = (ps.take j).filter (fun p => !decide (p = (a, u))) ++ [(a, y)]) := by show _ = _; rw [HTK.out, List.filter_append, List.filter_cons_of_pos (by rw [decide_eq_false hne]; rfl)]; simp
          generalize (ps.take j).filter (fun p => !decide (p = (a, u))) = fs at *
          obtain ⟨D, cd, rfl, hcd⟩ := own_shape HO.out
          go_wp2_with (at_builtin; refine wpList_append_own _ rfl _ _ 77 rfl w.heap.size 143 i0 (.agg #[.int .i64 0, .string ⟨#[]⟩]) 2 24 HE.out.ut HE.out.info HE.out.zero HE.out.sz HE.out.by_ HE.out.cells HE.out.pos _ _ _ rfl (HO.out.alloc _) ⟨wr.heap.size, 0, none⟩ 1 1 (cellsP (a, y)) rfl rfl (new_P wr (a, y) _ rfl) (one_P _) (by unfold maxLen; omega) (by omega) (by simp; omega) ?_; intro v2 z2 hown hg _; have HB3 := Lib.hid ((HB.out.alloc sz _).grown hg (by simp; omega) (fun k hk => (HO.out.lt k hk).1)); have HO2 := Lib.hid hown; obtain ⟨g2, cap2, rfl⟩ := ownsRow_succ hown; clear hown hg)
          go_roundw
          case rel => exact ⟨j + 1, by omega, by go_num, by rw [HF.out, flatP_snoc, List.length_append]; exact HO2.out, HB3.out⟩
          case measure => simp [intOf]; omega
      · have hne : ¬ (a, y) = (who, u) := fun e => ha (congrArg Prod.fst e)
        have e1 : (a != who) = true := by simpa using ha
        have HF : Hid ((ps.take (j + 1)).filter (fun p => !decide (p = (who, u))) = (ps.take j).filter (fun p => !decide (p = (who, u))) ++ [(a, y)]) := by show _ = _; rw [HTK.out, List.filter_append, List.filter_cons_of_pos (by rw [decide_eq_false hne]; rfl)]; simp
        generalize (ps.take j).filter (fun p => !decide (p = (who, u))) = fs at *
        obtain ⟨D, cd, rfl, hcd⟩ := own_shape HO.out
        go_wp2_with (at_builtin; refine wpList_append_own _ rfl _ _ 77 rfl w.heap.size 143 i0 (.agg #[.int .i64 0, .string ⟨#[]⟩]) 2 24 HE.out.ut HE.out.info HE.out.zero HE.out.sz HE.out.by_ HE.out.cells HE.out.pos _ _ _ rfl (HO.out.alloc _) ⟨wr.heap.size, 0, none⟩ 1 1 (cellsP (a, y)) rfl rfl (new_P wr (a, y) _ rfl) (one_P _) (by unfold maxLen; omega) (by omega) (by simp; omega) ?_; intro v2 z2 hown hg _; have HB3 := Lib.hid ((HB.out.alloc sz _).grown hg (by simp; omega) (fun k hk => (HO.out.lt k hk).1)); have HO2 := Lib.hid hown; obtain ⟨g2, cap2, rfl⟩ := ownsRow_succ hown; clear hown hg)
        go_roundw
        case rel => exact ⟨j + 1, by omega, by go_num, by rw [HF.out, flatP_snoc, List.length_append]; exact HO2.out, HB3.out⟩
        case measure => simp [intOf]; omega
    · have d1 : decide ((j : Int) < (ps.length : Int)) = false := by simp; omega
      have e1 : ps.take j = ps := List.take_of_length_le (by omega)
      rw [e1] at HO hfl
      obtain ⟨fs, hfs⟩ : ∃ fs, (ps.filter fun p => !decide (p = (who, u))) = fs := ⟨_, rfl⟩
      rw [hfs] at HO hfl
      have HFS := Lib.hid hfs
      clear hfs
      obtain ⟨D, cd, rfl, hcd⟩ := own_shape HO.out
      go_wp2_with fail
      go_end0
      have hfin := HV.out.pairs HB.out (ps' := fs) (c := cd) (Seq.own HO.out)
      exact ⟨rfl, _, by rw [HFS.out]; exact hfin.1, hfin.2⟩
end Feed
end Go.Proofs.YtohdlnefgieenaaGreat
