/-
  What the reference's (layer 8) Write comes to.
-/
import Derived.Test.YtjjemdmbhgmiiaaBook15
import Derived.Test.YtjjemdmbhgmiiaaSessT
namespace Go.Proofs.Ytjjemdmbhgmiiaa
open Go.RowKit
namespace Bk
open Go.Law Go.Proofs.Ytjjemdmbhgmiiaa.OmapB Door

section
variable {us ls : List Sn} {A : Option Addr} {c : Nat} {w : World} {er : Int}
theorem refSet_ {s : Sn} {most : Int} (h : SetTo s most us ls er) (hs : Lain 63 w A (flatS us)) (hl : us.length ≤ 900) (hu : Up us) : Calls Try.prog 34 #[.slice A us.length c, V s, .int .i64 most] w (Gives w ls er) := by
  rcases h with ⟨h, rfl, rfl⟩ | ⟨h, hm, rfl, rfl⟩ | ⟨h, hm, rfl, rfl⟩
  · exact (Sess.refSetPut s most us A c w hs.seq hl hu true h (.inl rfl)).mono fun _ _ h => gives h
  · exact (Sess.refSetFull s most _ A c w hs.seq hl h hm).mono fun _ w' ⟨h1, h2⟩ => ⟨A, c, h1, hs.now h2, h2⟩
  · exact (Sess.refSetPut s most us A c w hs.seq hl hu false h (.inr hm)).mono fun _ _ h => gives h
theorem refBeat_ {k u : Int} (h : BeatTo k u us ls er) (hs : Lain 63 w A (flatS us)) (hl : us.length ≤ 900) : Calls Try.prog 35 #[.slice A us.length c, .int .i64 k, .int .u64 u] w (Gives w ls er) := by
  rcases h with ⟨h, rfl, rfl⟩ | ⟨h, rfl, rfl⟩
  · exact (Sess.refBeatOne k u us A c w hs.seq hl h).mono fun _ _ h => gives h
  · exact (Sess.refBeatNo k u _ A c w hs.seq hl h).mono fun _ w' ⟨h1, h2⟩ => ⟨A, c, h1, hs.now h2, h2⟩
theorem refPurge_ {now : Int} (e : live now us = ls) (hs : Lain 63 w A (flatS us)) (hl : us.length ≤ 900) : Calls Try.prog 30 #[.slice A us.length c, .int .u64 now] w fun e w' => ∃ A c, e = .returned (.slice A ls.length c) ∧ Lain 63 w' A (flatS ls) ∧ Below w.heap.size w w' := by
  subst e
  exact (Sess.refPurge now us A c w hs.seq hl).mono fun _ _ ⟨A, c, he, hr, hb⟩ => ⟨A, c, he, Lain.own hr, hb⟩
theorem refClear_ {k : Int} (hs : Lain 63 w A (flatS us)) (hl : us.length ≤ 900) : Calls Try.prog 37 #[.slice A us.length c, .int .i64 k] w fun e w' => ∃ A c, e = .returned (.slice A (out k us).length c) ∧ Lain 63 w' A (flatS (out k us)) ∧ Below w.heap.size w w' := 
  (Sess.refClear k us A c w hs.seq hl).mono fun _ _ ⟨A, c, he, hr, hb⟩ => ⟨A, c, he, Lain.own hr, hb⟩
theorem refHas_ {k : Int} {b : Bool} (e : hasS k us = b) (hs : Lain 63 w A (flatS us)) (hl : us.length ≤ 900) : Calls Try.prog 36 #[.slice A us.length c, .int .i64 k] w fun e w' => e = .returned (.bool b) ∧ w' = w := by
  subst e
  exact (Sess.refHas k us A c w hs.seq (by omega)).mono fun _ _ ⟨h1, h2⟩ => ⟨h1, h2.symm⟩
end
/-- behind the reference's Write or Sweep -/
def RWrote (w : World) (b : List (ByteArray × En)) (cs : List Ch) (er : Int) (e : Ending) (w' : World) : Prop := ∃ A1 c1 A c, e = .returned (.tuple #[.slice A1 b.length c1, .slice A cs.length c, .int .i64 er]) ∧ UsersAt w' A1 b ∧ Lain 93 w' A (flatC cs) ∧ Below w.heap.size w w'

set_option maxRecDepth 100000 in
set_option maxHeartbeats 4000000 in
theorem refWrite (q : OpV) (now most : Int) {w : World} {A : Option Addr} {c : Nat} {b : List (ByteArray × En)} (hU : U now) (hT : U q.ttl) (h : UsersAt w A b) (hb : Book lt b) (hl : (sesK q.user b).length ≤ 899) (hn : b.length ≤ 900) :
    Calls Try.prog 15 #[.slice A b.length c, q.val, .int .u64 now, .int .i64 most] w (RWrote w (wrB q now most b) (wrC q now most b) (wrE q now most b)) := by
  obtain ⟨kind, user, id, st, pr, ttl, users⟩ := q
  obtain ⟨t0, t1, t2, ht⟩ : ∃ t0 t1 t2, toldK user b = (t0, t1, t2) := ⟨_, _, _, rfl⟩
  obtain ⟨ss, hss⟩ : ∃ ss, sesK user b = ss := ⟨_, rfl⟩
  obtain ⟨us, hus⟩ : ∃ us, live now ss = us := ⟨_, rfl⟩
  have hup : Up us := by rw [← hus, ← hss]; exact live_up now (hb.ses lt user)
  have hul : us.length ≤ 899 := by rw [← hus]; have := live_length now ss; rw [← hss] at this ⊢; simp only at hl; omega
  have hsl : ss.length ≤ 899 := by rw [← hss]; exact hl
  unfold wrB wrC wrE wrS
  simp only [OpV.val, hss, hus]
  obtain ⟨un, hun⟩ : ∃ un, sat now ttl = un := ⟨_, rfl⟩
  rw [hun]
  have HUN := Lib.hid hun
  clear hun
  have H := Lib.hid h
  have HBK := Lib.hid hb
  have HT := Lib.hid ht
  have HSS := Lib.hid hss
  have HUS := Lib.hid hus
  have HUP := Lib.hid hup
  have HB := Lib.hid (Below.refl w.heap.size w)
  have HU1 := Lib.hid hU
  have HU2 : Hid (U ttl) := hT
  clear h hb ht hss hus hup hU hT hl
  by_cases k1 : kind = 1
  · subst k1
    obtain ⟨ls, hls⟩ : ∃ ls, (wrote 1 id st pr un most us).1 = ls := ⟨_, rfl⟩
    obtain ⟨er, her⟩ : ∃ er, (wrote 1 id st pr un most us).2 = er := ⟨_, rfl⟩
    rw [hls, her]
    have hll : ls.length ≤ 900 := by rw [← hls]; have := wrote_le 1 id st pr un most us; omega
    have HLS_ := Lib.hid hls
    have HER_ := Lib.hid her
    clear hls her
    go_enter Try.func15, Try.ntmps15
    go_wp2_with fail
    have HI0 := Lib.hid (Is.new w 33 #[.int .i64 1, .string user, .int .i64 id, .int .i64 st, .int .i64 pr, .int .u64 ttl, users] rfl)
    have bx := (Below.refl w.heap.size w).alloc (Nat.le_refl _) (.cells #[.int .i64 1, .string user, .int .i64 id, .int .i64 st, .int .i64 pr, .int .u64 ttl, users] 33)
    replace H := Lib.hid (H.out.now bx)
    replace HB := Lib.hid (HB.out.trans (bx.mono HB.out.size))
    generalize w.alloc (.cells #[.int .i64 1, .string user, .int .i64 id, .int .i64 st, .int .i64 pr, .int .u64 ttl, users] 33) = w1 at *
    clear bx
    refine (refFind user HSS.out HT.out H.out HBK.out.1 hn).mono ?_
    rintro e w2 ⟨A2, c2, rfl, s2, b1⟩
    have HS2 := Lib.hid s2
    replace H := Lib.hid (H.out.now b1)
    replace HB := Lib.hid (HB.out.trans (b1.mono HB.out.size))
    replace HI0 := Lib.hid (HI0.out.below b1 HI0.out.lt)
    clear b1 s2
    go_wp2_with fail
    refine (refPurge_ HUS.out HS2.out (by omega)).mono ?_
    rintro e w3 ⟨A3, c3, rfl, s3, b1⟩
    have HS := Lib.hid s3
    replace H := Lib.hid (H.out.now b1)
    replace HB := Lib.hid (HB.out.trans (b1.mono HB.out.size))
    replace HI0 := Lib.hid (HI0.out.below b1 HI0.out.lt)
    clear b1 s3 HS2
    have i0 := HI0.out.cell' (i := 0) rfl
    have i1 := HI0.out.cell' (i := 1) rfl
    have i2 := HI0.out.cell' (i := 2) rfl
    have i3 := HI0.out.cell' (i := 3) rfl
    have i4 := HI0.out.cell' (i := 4) rfl
    have i5 := HI0.out.cell' (i := 5) rfl
    have i6 := HI0.out.cell' (i := 6) rfl
    go_wp2_with fail
    refine (Tick.refAdd now ttl HU1.out HU2.out _).mono ?_
    rintro e w' ⟨rfl, rfl⟩
    rw [HUN.out]
    have hls := HLS_.out
    have her := HER_.out
    clear HLS_ HER_
    have HWS : Hid (SetTo (id, st, pr, un) most us ls er) := by rw [← hls, ← her]; exact wrote_set id st pr un most us
    clear hls her
    go_wp2_with fail
    refine (refSet_ HWS.out HS.out (by omega) HUP.out).mono ?_
    rintro e w4 ⟨A4, c4, rfl, s4, b1⟩
    have HG := Lib.hid s4
    replace H := Lib.hid (H.out.now b1)
    replace HB := Lib.hid (HB.out.trans (b1.mono HB.out.size))
    replace HI0 := Lib.hid (HI0.out.below b1 HI0.out.lt)
    clear b1 s4 HS HWS i0 i1 i2 i3 i4 i5 i6
    have i1 := HI0.out.cell' (i := 1) rfl
    go_wp2_with fail
    refine (refBecome user ls now H.out HBK.out.1 HG.out hll hn).mono ?_
    rintro e w5 ⟨A5, c5, A6, c6, rfl, u5, l5, b1⟩
    have HZ := Lib.hid (And.intro u5 (And.intro l5 (HB.out.trans (b1.mono HB.out.size))))
    clear b1 u5 l5 HG H HB HI0
    go_wp2_with fail
    exact bodyPost_ret (v := .tuple #[.slice A5 (become lt user ls now b).length c5, .slice A6 (tells user ls now b).length c6, .int .i64 er]) (by simp [results, Try.results15, go_sem]) rfl ⟨A5, c5, A6, c6, rfl, HZ.out.1, HZ.out.2.1, HZ.out.2.2⟩
  · by_cases k2 : kind = 2
    · subst k2
      obtain ⟨ls, hls⟩ : ∃ ls, (wrote 2 id st pr un most us).1 = ls := ⟨_, rfl⟩
      obtain ⟨er, her⟩ : ∃ er, (wrote 2 id st pr un most us).2 = er := ⟨_, rfl⟩
      rw [hls, her]
      have hll : ls.length ≤ 900 := by rw [← hls]; have := wrote_le 2 id st pr un most us; omega
      have HLS_ := Lib.hid hls
      have HER_ := Lib.hid her
      clear hls her
      go_enter Try.func15, Try.ntmps15
      go_wp2_with fail
      have HI0 := Lib.hid (Is.new w 33 #[.int .i64 2, .string user, .int .i64 id, .int .i64 st, .int .i64 pr, .int .u64 ttl, users] rfl)
      have bx := (Below.refl w.heap.size w).alloc (Nat.le_refl _) (.cells #[.int .i64 2, .string user, .int .i64 id, .int .i64 st, .int .i64 pr, .int .u64 ttl, users] 33)
      replace H := Lib.hid (H.out.now bx)
      replace HB := Lib.hid (HB.out.trans (bx.mono HB.out.size))
      generalize w.alloc (.cells #[.int .i64 2, .string user, .int .i64 id, .int .i64 st, .int .i64 pr, .int .u64 ttl, users] 33) = w1 at *
      clear bx
      refine (refFind user HSS.out HT.out H.out HBK.out.1 hn).mono ?_
      rintro e w2 ⟨A2, c2, rfl, s2, b1⟩
      have HS2 := Lib.hid s2
      replace H := Lib.hid (H.out.now b1)
      replace HB := Lib.hid (HB.out.trans (b1.mono HB.out.size))
      replace HI0 := Lib.hid (HI0.out.below b1 HI0.out.lt)
      clear b1 s2
      go_wp2_with fail
      refine (refPurge_ HUS.out HS2.out (by omega)).mono ?_
      rintro e w3 ⟨A3, c3, rfl, s3, b1⟩
      have HS := Lib.hid s3
      replace H := Lib.hid (H.out.now b1)
      replace HB := Lib.hid (HB.out.trans (b1.mono HB.out.size))
      replace HI0 := Lib.hid (HI0.out.below b1 HI0.out.lt)
      clear b1 s3 HS2
      have i0 := HI0.out.cell' (i := 0) rfl
      have i1 := HI0.out.cell' (i := 1) rfl
      have i2 := HI0.out.cell' (i := 2) rfl
      have i3 := HI0.out.cell' (i := 3) rfl
      have i4 := HI0.out.cell' (i := 4) rfl
      have i5 := HI0.out.cell' (i := 5) rfl
      have i6 := HI0.out.cell' (i := 6) rfl
      go_wp2_with fail
      refine (Tick.refAdd now ttl HU1.out HU2.out _).mono ?_
      rintro e w' ⟨rfl, rfl⟩
      rw [HUN.out]
      have hls := HLS_.out
      have her := HER_.out
      clear HLS_ HER_
      have HWS : Hid (BeatTo id un us ls er) := by rw [← hls, ← her]; exact wrote_beat id st pr un most us
      clear hls her
      go_wp2_with fail
      refine (refBeat_ HWS.out HS.out (by omega)).mono ?_
      rintro e w4 ⟨A4, c4, rfl, s4, b1⟩
      have HG := Lib.hid s4
      replace H := Lib.hid (H.out.now b1)
      replace HB := Lib.hid (HB.out.trans (b1.mono HB.out.size))
      replace HI0 := Lib.hid (HI0.out.below b1 HI0.out.lt)
      clear b1 s4 HS HWS i0 i1 i2 i3 i4 i5 i6
      have i1 := HI0.out.cell' (i := 1) rfl
      go_wp2_with fail
      refine (refBecome user ls now H.out HBK.out.1 HG.out hll hn).mono ?_
      rintro e w5 ⟨A5, c5, A6, c6, rfl, u5, l5, b1⟩
      have HZ := Lib.hid (And.intro u5 (And.intro l5 (HB.out.trans (b1.mono HB.out.size))))
      clear b1 u5 l5 HG H HB HI0
      go_wp2_with fail
      exact bodyPost_ret (v := .tuple #[.slice A5 (become lt user ls now b).length c5, .slice A6 (tells user ls now b).length c6, .int .i64 er]) (by simp [results, Try.results15, go_sem]) rfl ⟨A5, c5, A6, c6, rfl, HZ.out.1, HZ.out.2.1, HZ.out.2.2⟩
    · by_cases k3 : kind = 3
      · subst k3
        obtain ⟨ls, hls⟩ : ∃ ls, (wrote 3 id st pr un most us).1 = ls := ⟨_, rfl⟩
        obtain ⟨er, her⟩ : ∃ er, (wrote 3 id st pr un most us).2 = er := ⟨_, rfl⟩
        rw [hls, her]
        have hll : ls.length ≤ 900 := by rw [← hls]; have := wrote_le 3 id st pr un most us; omega
        have HLS_ := Lib.hid hls
        have HER_ := Lib.hid her
        clear hls her
        go_enter Try.func15, Try.ntmps15
        go_wp2_with fail
        have HI0 := Lib.hid (Is.new w 33 #[.int .i64 3, .string user, .int .i64 id, .int .i64 st, .int .i64 pr, .int .u64 ttl, users] rfl)
        have bx := (Below.refl w.heap.size w).alloc (Nat.le_refl _) (.cells #[.int .i64 3, .string user, .int .i64 id, .int .i64 st, .int .i64 pr, .int .u64 ttl, users] 33)
        replace H := Lib.hid (H.out.now bx)
        replace HB := Lib.hid (HB.out.trans (bx.mono HB.out.size))
        generalize w.alloc (.cells #[.int .i64 3, .string user, .int .i64 id, .int .i64 st, .int .i64 pr, .int .u64 ttl, users] 33) = w1 at *
        clear bx
        refine (refFind user HSS.out HT.out H.out HBK.out.1 hn).mono ?_
        rintro e w2 ⟨A2, c2, rfl, s2, b1⟩
        have HS2 := Lib.hid s2
        replace H := Lib.hid (H.out.now b1)
        replace HB := Lib.hid (HB.out.trans (b1.mono HB.out.size))
        replace HI0 := Lib.hid (HI0.out.below b1 HI0.out.lt)
        clear b1 s2
        go_wp2_with fail
        refine (refPurge_ HUS.out HS2.out (by omega)).mono ?_
        rintro e w3 ⟨A3, c3, rfl, s3, b1⟩
        have HS := Lib.hid s3
        replace H := Lib.hid (H.out.now b1)
        replace HB := Lib.hid (HB.out.trans (b1.mono HB.out.size))
        replace HI0 := Lib.hid (HI0.out.below b1 HI0.out.lt)
        clear b1 s3 HS2
        have i0 := HI0.out.cell' (i := 0) rfl
        have i1 := HI0.out.cell' (i := 1) rfl
        have i2 := HI0.out.cell' (i := 2) rfl
        have i3 := HI0.out.cell' (i := 3) rfl
        have i4 := HI0.out.cell' (i := 4) rfl
        have i5 := HI0.out.cell' (i := 5) rfl
        have i6 := HI0.out.cell' (i := 6) rfl
        go_wp2_with fail
        refine (Tick.refAdd now ttl HU1.out HU2.out _).mono ?_
        rintro e w' ⟨rfl, rfl⟩
        rw [HUN.out]
        have hls := HLS_.out
        have her := HER_.out
        clear HLS_ HER_
        rw [wrote_clear] at hls her
        simp only at hls her
        obtain ⟨hv, hh⟩ : ∃ hv, hasS id us = hv := ⟨_, rfl⟩
        rw [hh] at her
        have HH := Lib.hid hh
        have HLS := Lib.hid hls
        have HER := Lib.hid her
        clear hh hls her
        go_wp2_with fail
        refine (refHas_ HH.out HS.out (by omega)).mono ?_
        rintro e w' ⟨rfl, rfl⟩
        cases hv with
        | true =>
          have he : er = 0 := HER.out.symm
          subst he
          go_wp2_with fail
          refine (refClear_ HS.out (by omega)).mono ?_
          rw [HLS.out]
          rintro e w4 ⟨A4, c4, rfl, s4, b1⟩
          have HG := Lib.hid s4
          replace H := Lib.hid (H.out.now b1)
          replace HB := Lib.hid (HB.out.trans (b1.mono HB.out.size))
          replace HI0 := Lib.hid (HI0.out.below b1 HI0.out.lt)
          clear b1 s4 HS i0 i1 i2 i3 i4 i5 i6
          have i1 := HI0.out.cell' (i := 1) rfl
          go_wp2_with fail
          refine (refBecome user ls now H.out HBK.out.1 HG.out hll hn).mono ?_
          rintro e w5 ⟨A5, c5, A6, c6, rfl, u5, l5, b1⟩
          have HZ := Lib.hid (And.intro u5 (And.intro l5 (HB.out.trans (b1.mono HB.out.size))))
          clear b1 u5 l5 HG H HB HI0
          go_wp2_with fail
          exact bodyPost_ret (v := .tuple #[.slice A5 (become lt user ls now b).length c5, .slice A6 (tells user ls now b).length c6, .int .i64 0]) (by simp [results, Try.results15, go_sem]) rfl ⟨A5, c5, A6, c6, rfl, HZ.out.1, HZ.out.2.1, HZ.out.2.2⟩
        | false =>
          have he : er = 3 := HER.out.symm
          subst he
          go_wp2_with fail
          refine (refClear_ HS.out (by omega)).mono ?_
          rw [HLS.out]
          rintro e w4 ⟨A4, c4, rfl, s4, b1⟩
          have HG := Lib.hid s4
          replace H := Lib.hid (H.out.now b1)
          replace HB := Lib.hid (HB.out.trans (b1.mono HB.out.size))
          replace HI0 := Lib.hid (HI0.out.below b1 HI0.out.lt)
          clear b1 s4 HS i0 i1 i2 i3 i4 i5 i6
          have i1 := HI0.out.cell' (i := 1) rfl
          go_wp2_with fail
          refine (refBecome user ls now H.out HBK.out.1 HG.out hll hn).mono ?_
          rintro e w5 ⟨A5, c5, A6, c6, rfl, u5, l5, b1⟩
          have HZ := Lib.hid (And.intro u5 (And.intro l5 (HB.out.trans (b1.mono HB.out.size))))
          clear b1 u5 l5 HG H HB HI0
          go_wp2_with fail
          exact bodyPost_ret (v := .tuple #[.slice A5 (become lt user ls now b).length c5, .slice A6 (tells user ls now b).length c6, .int .i64 3]) (by simp [results, Try.results15, go_sem]) rfl ⟨A5, c5, A6, c6, rfl, HZ.out.1, HZ.out.2.1, HZ.out.2.2⟩
      · have d1 : (kind == 1) = false := by simpa using k1
        have d2 : (kind == 2) = false := by simpa using k2
        have d3 : (kind == 3) = false := by simpa using k3
        obtain ⟨ls, hls⟩ : ∃ ls, (wrote kind id st pr un most us).1 = ls := ⟨_, rfl⟩
        obtain ⟨er, her⟩ : ∃ er, (wrote kind id st pr un most us).2 = er := ⟨_, rfl⟩
        rw [hls, her]
        have hll : ls.length ≤ 900 := by rw [← hls]; have := wrote_le kind id st pr un most us; omega
        rw [wrote_else _ _ _ _ _ _ k1 k2 k3] at hls her
        simp only at hls her
        subst hls her
        go_enter Try.func15, Try.ntmps15
        go_wp2_with fail
        have HI0 := Lib.hid (Is.new w 33 #[.int .i64 kind, .string user, .int .i64 id, .int .i64 st, .int .i64 pr, .int .u64 ttl, users] rfl)
        have bx := (Below.refl w.heap.size w).alloc (Nat.le_refl _) (.cells #[.int .i64 kind, .string user, .int .i64 id, .int .i64 st, .int .i64 pr, .int .u64 ttl, users] 33)
        replace H := Lib.hid (H.out.now bx)
        replace HB := Lib.hid (HB.out.trans (bx.mono HB.out.size))
        generalize w.alloc (.cells #[.int .i64 kind, .string user, .int .i64 id, .int .i64 st, .int .i64 pr, .int .u64 ttl, users] 33) = w1 at *
        clear bx
        refine (refFind user HSS.out HT.out H.out HBK.out.1 hn).mono ?_
        rintro e w2 ⟨A2, c2, rfl, s2, b1⟩
        have HS2 := Lib.hid s2
        replace H := Lib.hid (H.out.now b1)
        replace HB := Lib.hid (HB.out.trans (b1.mono HB.out.size))
        replace HI0 := Lib.hid (HI0.out.below b1 HI0.out.lt)
        clear b1 s2
        go_wp2_with fail
        refine (refPurge_ HUS.out HS2.out (by omega)).mono ?_
        rintro e w3 ⟨A3, c3, rfl, s3, b1⟩
        have HS := Lib.hid s3
        replace H := Lib.hid (H.out.now b1)
        replace HB := Lib.hid (HB.out.trans (b1.mono HB.out.size))
        replace HI0 := Lib.hid (HI0.out.below b1 HI0.out.lt)
        clear b1 s3 HS2
        have i0 := HI0.out.cell' (i := 0) rfl
        have i1 := HI0.out.cell' (i := 1) rfl
        have i2 := HI0.out.cell' (i := 2) rfl
        have i3 := HI0.out.cell' (i := 3) rfl
        have i4 := HI0.out.cell' (i := 4) rfl
        have i5 := HI0.out.cell' (i := 5) rfl
        have i6 := HI0.out.cell' (i := 6) rfl
        go_wp2_with fail
        refine (Tick.refAdd now ttl HU1.out HU2.out _).mono ?_
        rintro e w' ⟨rfl, rfl⟩
        rw [HUN.out]
        go_wp2_with fail
        have HG := HS
        refine (refBecome user us now H.out HBK.out.1 HG.out hll hn).mono ?_
        rintro e w5 ⟨A5, c5, A6, c6, rfl, u5, l5, b1⟩
        have HZ := Lib.hid (And.intro u5 (And.intro l5 (HB.out.trans (b1.mono HB.out.size))))
        clear b1 u5 l5 HG H HB HI0
        go_wp2_with fail
        exact bodyPost_ret (v := .tuple #[.slice A5 (become lt user us now b).length c5, .slice A6 (tells user us now b).length c6, .int .i64 0]) (by simp [results, Try.results15, go_sem]) rfl ⟨A5, c5, A6, c6, rfl, HZ.out.1, HZ.out.2.1, HZ.out.2.2⟩
end Bk
end Go.Proofs.Ytjjemdmbhgmiiaa
