/-
  SessTwice: whatever the sessions, the session and the two times, the statement's function returns true, and the arguments read as before. No condition.
-/
import Derived.Test.YtgnfgiiifohjhaaSessO
import Derived.Test.YtgnfgiiifohjhaaSessU
namespace Go.Proofs.Ytgnfgiiifohjhaa.sessTwice
open Go.ChangeShapes Go.WideShapes Go.ChangeAt Go.RowKit
open Go.Law Go.Proofs.Ytgnfgiiifohjhaa.Sess

set_option maxRecDepth 100000 in
set_option maxHeartbeats 6400000 in
theorem walk (raw : List Sn) (A : Option Addr) (c : Nat) (s : Sn) (now earlier : Int) (w : World) (hs : Seq w 0 w.heap.size A (flatS raw)) (hl : raw.length ≤ maxLen) :
    Calls Try.prog 6 #[.slice A raw.length c, V s, .int .u64 now, .int .u64 earlier] w fun e w' => e = .returned (.bool true) ∧ Below w.heap.size w w' := by
  have HS := Lib.hid hs
  unfold maxLen at hl
  obtain ⟨x0, x1, x2, x3⟩ := s
  unfold V
  clear hs
  have B0 := (Below.refl w.heap.size w).alloc (Nat.le_refl _) (.cells #[.int .i64 x0, .int .i64 x1, .int .i64 x2, .int .u64 x3] 25)
  have I0 : Is (w.alloc (.cells #[.int .i64 x0, .int .i64 x1, .int .i64 x2, .int .u64 x3] 25)) w.heap.size 25 #[.int .i64 x0, .int .i64 x1, .int .i64 x2, .int .u64 x3] := Is.new _ _ _ rfl
  by_cases hf : 200 < raw.length
  · have d0 : decide ((200 : Int) < (raw.length : Int)) = true := by simp; omega
    go_enter Try.func6, Try.ntmps6
    go_wp2_with fail
    generalize w.alloc (.cells #[.int .i64 x0, .int .i64 x1, .int .i64 x2, .int .u64 x3] 25) = w0 at *
    refine (awake _).mono ?_
    rintro e w1 ⟨rfl, b1⟩
    have B1 := Lib.hid (B0.trans (b1.mono B0.size))
    clear b1 B0 I0
    go_wp2_with fail
    refine (awake _).mono ?_
    rintro e w2 ⟨rfl, b2⟩
    have B2 := Lib.hid (B1.out.trans (b2.mono B1.out.size))
    clear b2
    go_wp2_with fail
    go_ret
    exact ⟨rfl, B2.out⟩
  · have d0 : decide ((200 : Int) < (raw.length : Int)) = false := by simp; omega
    go_enter Try.func6, Try.ntmps6
    go_wp2_with fail
    generalize w.alloc (.cells #[.int .i64 x0, .int .i64 x1, .int .i64 x2, .int .u64 x3] 25) = w0 at *
    refine (awake _).mono ?_
    rintro e w1 ⟨rfl, b1⟩
    have B1 := Lib.hid (B0.trans (b1.mono B0.size))
    have I1 := Lib.hid (I0.below b1 I0.lt)
    have sb1 := B1.out.size
    have l1 := I1.out.lt
    clear b1 B0 I0
    go_wp2_with fail
    refine (refSorted raw A c w1 ((HS.out.below B1.out).more B1.out.size) (by omega)).mono ?_
    rintro e w2 ⟨us, hu, hul, A2, cc2, rfl, r2, b2⟩
    have HU := Lib.hid hu
    have S2 := Lib.hid ((Seq.own r2).from_ (Nat.zero_le _))
    have sb2 := b2.size
    have B2 := Lib.hid (B1.out.trans (b2.mono sb1))
    have I2 := Lib.hid (I1.out.below b2 l1)
    have l2 := I2.out.lt
    have hul2 : us.length ≤ 200 := by omega
    have c0 : w2.cell? ⟨w.heap.size, 0, none⟩ = some (.int .i64 x0) := I2.out.cell' rfl
    have c1 : w2.cell? ⟨w.heap.size, 1, none⟩ = some (.int .i64 x1) := I2.out.cell' rfl
    have c2 : w2.cell? ⟨w.heap.size, 2, none⟩ = some (.int .i64 x2) := I2.out.cell' rfl
    have c3 : w2.cell? ⟨w.heap.size, 3, none⟩ = some (.int .u64 x3) := I2.out.cell' rfl
    clear hu r2 b2 B1 I1 HS hul
    have HPS : Hid (∃ ps, put (x0, x1, x2, x3) us = ps) := ⟨_, rfl⟩
    obtain ⟨ps, hps⟩ := HPS.out
    clear HPS
    have hpl : ps.length ≤ 201 := by have := put_le (x0, x1, x2, x3) us; rw [hps] at this; omega
    have PU : Hid (Up ps) := by show Up _; rw [← hps]; exact put_up _ HU.out
    have PH : Hid (hasS x0 ps = true) := by show _ = _; rw [← hps]; exact put_has (x0, x1, x2, x3) us
    have PP : Hid (put (x0, x1, x2, x3) ps = ps) := by show _ = _; rw [← hps]; exact put_put (x0, x1, x2, x3) HU.out
    have PB : Hid (beatS x0 x3 ps = ps) := by show _ = _; rw [← hps]; exact beat_put (x0, x1, x2, x3) HU.out
    have HPs := Lib.hid hps
    clear hps
    have HDS : Hid (∃ ds, out x0 ps = ds) := ⟨_, rfl⟩
    obtain ⟨ds, hds⟩ := HDS.out
    clear HDS
    have hdl : ds.length ≤ 201 := by have := out_length_le x0 ps; rw [hds] at this; omega
    have DH : Hid (hasS x0 ds = false) := by show _ = _; rw [← hds]; exact out_has x0 ps
    have DU : Hid (Up ds) := by show Up _; rw [← hds]; exact out_up x0 PU.out
    have HDs := Lib.hid hds
    clear hds
    go_wp2_with fail
    refine (setE (s := (x0, x1, x2, x3)) (most := 201) (c := cc2) (.inr (by omega)) HPs.out S2.out (by omega) HU.out).mono ?_
    rintro e w_3 ⟨Aa, ka, rfl, s_3, b_3⟩
    have Sus3 := Lib.hid ((S2.out.below b_3).more b_3.size)
    have c0_3 : w_3.cell? ⟨w.heap.size, 0, none⟩ = some (.int .i64 x0) := (b_3.cell (p := ⟨w.heap.size, 0, none⟩) l2).trans c0
    have c1_3 : w_3.cell? ⟨w.heap.size, 1, none⟩ = some (.int .i64 x1) := (b_3.cell (p := ⟨w.heap.size, 1, none⟩) l2).trans c1
    have c2_3 : w_3.cell? ⟨w.heap.size, 2, none⟩ = some (.int .i64 x2) := (b_3.cell (p := ⟨w.heap.size, 2, none⟩) l2).trans c2
    have c3_3 : w_3.cell? ⟨w.heap.size, 3, none⟩ = some (.int .u64 x3) := (b_3.cell (p := ⟨w.heap.size, 3, none⟩) l2).trans c3
    have B_3 := Lib.hid (B2.out.trans (b_3.mono B2.out.size))
    have l_3 := Nat.lt_of_lt_of_le l2 b_3.size
    have Sa3 := Lib.hid s_3
    clear S2 c0 c1 c2 c3 B2 l2 b_3
    clear s_3
    go_wp2_with fail
    refine (setE (s := (x0, x1, x2, x3)) (most := 0) (c := ka) (.inl PH.out) PP.out Sa3.out (by omega) PU.out).mono ?_
    rintro e w_4 ⟨Ab, kb, rfl, s_4, b_4⟩
    have Sus4 := Lib.hid ((Sus3.out.below b_4).more b_4.size)
    have Sa4 := Lib.hid ((Sa3.out.below b_4).more b_4.size)
    have c0_4 : w_4.cell? ⟨w.heap.size, 0, none⟩ = some (.int .i64 x0) := (b_4.cell (p := ⟨w.heap.size, 0, none⟩) l_3).trans c0_3
    have c1_4 : w_4.cell? ⟨w.heap.size, 1, none⟩ = some (.int .i64 x1) := (b_4.cell (p := ⟨w.heap.size, 1, none⟩) l_3).trans c1_3
    have c2_4 : w_4.cell? ⟨w.heap.size, 2, none⟩ = some (.int .i64 x2) := (b_4.cell (p := ⟨w.heap.size, 2, none⟩) l_3).trans c2_3
    have c3_4 : w_4.cell? ⟨w.heap.size, 3, none⟩ = some (.int .u64 x3) := (b_4.cell (p := ⟨w.heap.size, 3, none⟩) l_3).trans c3_3
    have B_4 := Lib.hid (B_3.out.trans (b_4.mono B_3.out.size))
    have l_4 := Nat.lt_of_lt_of_le l_3 b_4.size
    have Sb4 := Lib.hid s_4
    clear Sus3 Sa3 c0_3 c1_3 c2_3 c3_3 B_3 l_3 b_4
    clear s_4
    go_wp2_with fail
    refine (beatE (k := x0) (u := x3) (c := kb) PH.out PB.out Sb4.out (by omega) PU.out).mono ?_
    rintro e w_5 ⟨Ac, kc, rfl, s_5, b_5⟩
    have Sus5 := Lib.hid ((Sus4.out.below b_5).more b_5.size)
    have Sa5 := Lib.hid ((Sa4.out.below b_5).more b_5.size)
    have Sb5 := Lib.hid ((Sb4.out.below b_5).more b_5.size)
    have c0_5 : w_5.cell? ⟨w.heap.size, 0, none⟩ = some (.int .i64 x0) := (b_5.cell (p := ⟨w.heap.size, 0, none⟩) l_4).trans c0_4
    have c1_5 : w_5.cell? ⟨w.heap.size, 1, none⟩ = some (.int .i64 x1) := (b_5.cell (p := ⟨w.heap.size, 1, none⟩) l_4).trans c1_4
    have c2_5 : w_5.cell? ⟨w.heap.size, 2, none⟩ = some (.int .i64 x2) := (b_5.cell (p := ⟨w.heap.size, 2, none⟩) l_4).trans c2_4
    have c3_5 : w_5.cell? ⟨w.heap.size, 3, none⟩ = some (.int .u64 x3) := (b_5.cell (p := ⟨w.heap.size, 3, none⟩) l_4).trans c3_4
    have B_5 := Lib.hid (B_4.out.trans (b_5.mono B_4.out.size))
    have l_5 := Nat.lt_of_lt_of_le l_4 b_5.size
    have Sc5 := Lib.hid s_5
    clear Sus4 Sa4 Sb4 c0_4 c1_4 c2_4 c3_4 B_4 l_4 b_5
    clear s_5
    go_wp2_with fail
    refine (clearE (k := x0) (c := kc) PH.out HDs.out Sc5.out (by omega) PU.out).mono ?_
    rintro e w_6 ⟨Ad, kd, rfl, s_6, b_6⟩
    have Sus6 := Lib.hid ((Sus5.out.below b_6).more b_6.size)
    have Sa6 := Lib.hid ((Sa5.out.below b_6).more b_6.size)
    have Sb6 := Lib.hid ((Sb5.out.below b_6).more b_6.size)
    have Sc6 := Lib.hid ((Sc5.out.below b_6).more b_6.size)
    have c0_6 : w_6.cell? ⟨w.heap.size, 0, none⟩ = some (.int .i64 x0) := (b_6.cell (p := ⟨w.heap.size, 0, none⟩) l_5).trans c0_5
    have c1_6 : w_6.cell? ⟨w.heap.size, 1, none⟩ = some (.int .i64 x1) := (b_6.cell (p := ⟨w.heap.size, 1, none⟩) l_5).trans c1_5
    have c2_6 : w_6.cell? ⟨w.heap.size, 2, none⟩ = some (.int .i64 x2) := (b_6.cell (p := ⟨w.heap.size, 2, none⟩) l_5).trans c2_5
    have c3_6 : w_6.cell? ⟨w.heap.size, 3, none⟩ = some (.int .u64 x3) := (b_6.cell (p := ⟨w.heap.size, 3, none⟩) l_5).trans c3_5
    have B_6 := Lib.hid (B_5.out.trans (b_6.mono B_5.out.size))
    have l_6 := Nat.lt_of_lt_of_le l_5 b_6.size
    have Sd6 := Lib.hid s_6
    clear Sus5 Sa5 Sb5 Sc5 c0_5 c1_5 c2_5 c3_5 B_5 l_5 b_6
    clear s_6
    go_wp2_with fail
    refine (clearN (k := x0) (c := kd) DH.out Sd6.out (by omega)).mono ?_
    rintro e w_7 ⟨Ak, kk, rfl, s_7, b_7⟩
    have Sus7 := Lib.hid ((Sus6.out.below b_7).more b_7.size)
    have Sa7 := Lib.hid ((Sa6.out.below b_7).more b_7.size)
    have Sb7 := Lib.hid ((Sb6.out.below b_7).more b_7.size)
    have Sc7 := Lib.hid ((Sc6.out.below b_7).more b_7.size)
    have Sd7 := Lib.hid ((Sd6.out.below b_7).more b_7.size)
    have c0_7 : w_7.cell? ⟨w.heap.size, 0, none⟩ = some (.int .i64 x0) := (b_7.cell (p := ⟨w.heap.size, 0, none⟩) l_6).trans c0_6
    have c1_7 : w_7.cell? ⟨w.heap.size, 1, none⟩ = some (.int .i64 x1) := (b_7.cell (p := ⟨w.heap.size, 1, none⟩) l_6).trans c1_6
    have c2_7 : w_7.cell? ⟨w.heap.size, 2, none⟩ = some (.int .i64 x2) := (b_7.cell (p := ⟨w.heap.size, 2, none⟩) l_6).trans c2_6
    have c3_7 : w_7.cell? ⟨w.heap.size, 3, none⟩ = some (.int .u64 x3) := (b_7.cell (p := ⟨w.heap.size, 3, none⟩) l_6).trans c3_6
    have B_7 := Lib.hid (B_6.out.trans (b_7.mono B_6.out.size))
    have l_7 := Nat.lt_of_lt_of_le l_6 b_7.size
    have Sk7 := Lib.hid s_7
    clear Sus6 Sa6 Sb6 Sc6 Sd6 c0_6 c1_6 c2_6 c3_6 B_6 l_6 b_7
    clear s_7
    go_wp2_with fail
    refine (refSame ps Aa Ab ka kb _ Sa7.out Sb7.out (by omega)).mono ?_
    rintro e w_8 ⟨rfl, b_8⟩
    have Sus8 := Lib.hid ((Sus7.out.below b_8).more b_8.size)
    have Sa8 := Lib.hid ((Sa7.out.below b_8).more b_8.size)
    have Sb8 := Lib.hid ((Sb7.out.below b_8).more b_8.size)
    have Sc8 := Lib.hid ((Sc7.out.below b_8).more b_8.size)
    have Sd8 := Lib.hid ((Sd7.out.below b_8).more b_8.size)
    have Sk8 := Lib.hid ((Sk7.out.below b_8).more b_8.size)
    have c0_8 : w_8.cell? ⟨w.heap.size, 0, none⟩ = some (.int .i64 x0) := (b_8.cell (p := ⟨w.heap.size, 0, none⟩) l_7).trans c0_7
    have c1_8 : w_8.cell? ⟨w.heap.size, 1, none⟩ = some (.int .i64 x1) := (b_8.cell (p := ⟨w.heap.size, 1, none⟩) l_7).trans c1_7
    have c2_8 : w_8.cell? ⟨w.heap.size, 2, none⟩ = some (.int .i64 x2) := (b_8.cell (p := ⟨w.heap.size, 2, none⟩) l_7).trans c2_7
    have c3_8 : w_8.cell? ⟨w.heap.size, 3, none⟩ = some (.int .u64 x3) := (b_8.cell (p := ⟨w.heap.size, 3, none⟩) l_7).trans c3_7
    have B_8 := Lib.hid (B_7.out.trans (b_8.mono B_7.out.size))
    have l_8 := Nat.lt_of_lt_of_le l_7 b_8.size
    clear Sus7 Sa7 Sb7 Sc7 Sd7 Sk7 c0_7 c1_7 c2_7 c3_7 B_7 l_7 b_8
    go_wp2_with fail
    refine (refSame ps Ab Ac kb kc _ Sb8.out Sc8.out (by omega)).mono ?_
    rintro e w_9 ⟨rfl, b_9⟩
    have Sus9 := Lib.hid ((Sus8.out.below b_9).more b_9.size)
    have Sa9 := Lib.hid ((Sa8.out.below b_9).more b_9.size)
    have Sb9 := Lib.hid ((Sb8.out.below b_9).more b_9.size)
    have Sc9 := Lib.hid ((Sc8.out.below b_9).more b_9.size)
    have Sd9 := Lib.hid ((Sd8.out.below b_9).more b_9.size)
    have Sk9 := Lib.hid ((Sk8.out.below b_9).more b_9.size)
    have c0_9 : w_9.cell? ⟨w.heap.size, 0, none⟩ = some (.int .i64 x0) := (b_9.cell (p := ⟨w.heap.size, 0, none⟩) l_8).trans c0_8
    have c1_9 : w_9.cell? ⟨w.heap.size, 1, none⟩ = some (.int .i64 x1) := (b_9.cell (p := ⟨w.heap.size, 1, none⟩) l_8).trans c1_8
    have c2_9 : w_9.cell? ⟨w.heap.size, 2, none⟩ = some (.int .i64 x2) := (b_9.cell (p := ⟨w.heap.size, 2, none⟩) l_8).trans c2_8
    have c3_9 : w_9.cell? ⟨w.heap.size, 3, none⟩ = some (.int .u64 x3) := (b_9.cell (p := ⟨w.heap.size, 3, none⟩) l_8).trans c3_8
    have B_9 := Lib.hid (B_8.out.trans (b_9.mono B_8.out.size))
    have l_9 := Nat.lt_of_lt_of_le l_8 b_9.size
    clear Sus8 Sa8 Sb8 Sc8 Sd8 Sk8 c0_8 c1_8 c2_8 c3_8 B_8 l_8 b_9
    go_wp2_with fail
    refine (refSame ds Ad Ak kd kk _ Sd9.out Sk9.out (by omega)).mono ?_
    rintro e w_10 ⟨rfl, b_10⟩
    have Sus10 := Lib.hid ((Sus9.out.below b_10).more b_10.size)
    have Sa10 := Lib.hid ((Sa9.out.below b_10).more b_10.size)
    have Sb10 := Lib.hid ((Sb9.out.below b_10).more b_10.size)
    have Sc10 := Lib.hid ((Sc9.out.below b_10).more b_10.size)
    have Sd10 := Lib.hid ((Sd9.out.below b_10).more b_10.size)
    have Sk10 := Lib.hid ((Sk9.out.below b_10).more b_10.size)
    have c0_10 : w_10.cell? ⟨w.heap.size, 0, none⟩ = some (.int .i64 x0) := (b_10.cell (p := ⟨w.heap.size, 0, none⟩) l_9).trans c0_9
    have c1_10 : w_10.cell? ⟨w.heap.size, 1, none⟩ = some (.int .i64 x1) := (b_10.cell (p := ⟨w.heap.size, 1, none⟩) l_9).trans c1_9
    have c2_10 : w_10.cell? ⟨w.heap.size, 2, none⟩ = some (.int .i64 x2) := (b_10.cell (p := ⟨w.heap.size, 2, none⟩) l_9).trans c2_9
    have c3_10 : w_10.cell? ⟨w.heap.size, 3, none⟩ = some (.int .u64 x3) := (b_10.cell (p := ⟨w.heap.size, 3, none⟩) l_9).trans c3_9
    have B_10 := Lib.hid (B_9.out.trans (b_10.mono B_9.out.size))
    have l_10 := Nat.lt_of_lt_of_le l_9 b_10.size
    clear Sus9 Sa9 Sb9 Sc9 Sd9 Sk9 c0_9 c1_9 c2_9 c3_9 B_9 l_9 b_10
    by_cases hlate : now < earlier
    · have dl : decide (now < earlier) = true := by simpa using hlate
      go_wp2_with fail
      go_ret
      exact ⟨rfl, B_10.out⟩
    · have dl : decide (now < earlier) = false := by simpa using hlate
      have hen : earlier ≤ now := by omega
      obtain ⟨le, hle⟩ : ∃ le, live earlier us = le := ⟨_, rfl⟩
      obtain ⟨ln, hln⟩ : ∃ ln, live now us = ln := ⟨_, rfl⟩
      have HLM : ln.length ≤ le.length := by rw [← hln, ← hle]; exact live_more hen us
      have HLL : Hid (live now le = ln) := by show _ = _; rw [← hln, ← hle]; exact live_live hen us
      have hl2 : le.length ≤ us.length := by rw [← hle]; exact live_length earlier us
      have HLe := Lib.hid hle
      have HLn := Lib.hid hln
      have dm : decide ((ln.length : Int) ≤ (le.length : Int)) = true := by simp; omega
      clear hle hln hlate
      go_wp2_with fail
      refine (purgeE (now := earlier) (c := cc2) HLe.out Sus10.out (by omega)).mono ?_
      rintro e w_11 ⟨Ap1, kp1, rfl, s_11, b_11⟩
      have Sus11 := Lib.hid ((Sus10.out.below b_11).more b_11.size)
      have Sa11 := Lib.hid ((Sa10.out.below b_11).more b_11.size)
      have Sb11 := Lib.hid ((Sb10.out.below b_11).more b_11.size)
      have Sc11 := Lib.hid ((Sc10.out.below b_11).more b_11.size)
      have Sd11 := Lib.hid ((Sd10.out.below b_11).more b_11.size)
      have Sk11 := Lib.hid ((Sk10.out.below b_11).more b_11.size)
      have c0_11 : w_11.cell? ⟨w.heap.size, 0, none⟩ = some (.int .i64 x0) := (b_11.cell (p := ⟨w.heap.size, 0, none⟩) l_10).trans c0_10
      have c1_11 : w_11.cell? ⟨w.heap.size, 1, none⟩ = some (.int .i64 x1) := (b_11.cell (p := ⟨w.heap.size, 1, none⟩) l_10).trans c1_10
      have c2_11 : w_11.cell? ⟨w.heap.size, 2, none⟩ = some (.int .i64 x2) := (b_11.cell (p := ⟨w.heap.size, 2, none⟩) l_10).trans c2_10
      have c3_11 : w_11.cell? ⟨w.heap.size, 3, none⟩ = some (.int .u64 x3) := (b_11.cell (p := ⟨w.heap.size, 3, none⟩) l_10).trans c3_10
      have B_11 := Lib.hid (B_10.out.trans (b_11.mono B_10.out.size))
      have l_11 := Nat.lt_of_lt_of_le l_10 b_11.size
      have Sp111 := Lib.hid s_11
      clear Sus10 Sa10 Sb10 Sc10 Sd10 Sk10 c0_10 c1_10 c2_10 c3_10 B_10 l_10 b_11
      clear s_11
      go_wp2_with fail
      refine (purgeE (now := now) (c := cc2) HLn.out Sus11.out (by omega)).mono ?_
      rintro e w_12 ⟨Ap2, kp2, rfl, s_12, b_12⟩
      have Sus12 := Lib.hid ((Sus11.out.below b_12).more b_12.size)
      have Sa12 := Lib.hid ((Sa11.out.below b_12).more b_12.size)
      have Sb12 := Lib.hid ((Sb11.out.below b_12).more b_12.size)
      have Sc12 := Lib.hid ((Sc11.out.below b_12).more b_12.size)
      have Sd12 := Lib.hid ((Sd11.out.below b_12).more b_12.size)
      have Sk12 := Lib.hid ((Sk11.out.below b_12).more b_12.size)
      have Sp112 := Lib.hid ((Sp111.out.below b_12).more b_12.size)
      have c0_12 : w_12.cell? ⟨w.heap.size, 0, none⟩ = some (.int .i64 x0) := (b_12.cell (p := ⟨w.heap.size, 0, none⟩) l_11).trans c0_11
      have c1_12 : w_12.cell? ⟨w.heap.size, 1, none⟩ = some (.int .i64 x1) := (b_12.cell (p := ⟨w.heap.size, 1, none⟩) l_11).trans c1_11
      have c2_12 : w_12.cell? ⟨w.heap.size, 2, none⟩ = some (.int .i64 x2) := (b_12.cell (p := ⟨w.heap.size, 2, none⟩) l_11).trans c2_11
      have c3_12 : w_12.cell? ⟨w.heap.size, 3, none⟩ = some (.int .u64 x3) := (b_12.cell (p := ⟨w.heap.size, 3, none⟩) l_11).trans c3_11
      have B_12 := Lib.hid (B_11.out.trans (b_12.mono B_11.out.size))
      have l_12 := Nat.lt_of_lt_of_le l_11 b_12.size
      have Sp212 := Lib.hid s_12
      clear Sus11 Sa11 Sb11 Sc11 Sd11 Sk11 Sp111 c0_11 c1_11 c2_11 c3_11 B_11 l_11 b_12
      clear s_12
      go_wp2_with fail
      refine (purgeE (now := earlier) (c := cc2) HLe.out Sus12.out (by omega)).mono ?_
      rintro e w_13 ⟨Ap3, kp3, rfl, s_13, b_13⟩
      have Sus13 := Lib.hid ((Sus12.out.below b_13).more b_13.size)
      have Sa13 := Lib.hid ((Sa12.out.below b_13).more b_13.size)
      have Sb13 := Lib.hid ((Sb12.out.below b_13).more b_13.size)
      have Sc13 := Lib.hid ((Sc12.out.below b_13).more b_13.size)
      have Sd13 := Lib.hid ((Sd12.out.below b_13).more b_13.size)
      have Sk13 := Lib.hid ((Sk12.out.below b_13).more b_13.size)
      have Sp113 := Lib.hid ((Sp112.out.below b_13).more b_13.size)
      have Sp213 := Lib.hid ((Sp212.out.below b_13).more b_13.size)
      have c0_13 : w_13.cell? ⟨w.heap.size, 0, none⟩ = some (.int .i64 x0) := (b_13.cell (p := ⟨w.heap.size, 0, none⟩) l_12).trans c0_12
      have c1_13 : w_13.cell? ⟨w.heap.size, 1, none⟩ = some (.int .i64 x1) := (b_13.cell (p := ⟨w.heap.size, 1, none⟩) l_12).trans c1_12
      have c2_13 : w_13.cell? ⟨w.heap.size, 2, none⟩ = some (.int .i64 x2) := (b_13.cell (p := ⟨w.heap.size, 2, none⟩) l_12).trans c2_12
      have c3_13 : w_13.cell? ⟨w.heap.size, 3, none⟩ = some (.int .u64 x3) := (b_13.cell (p := ⟨w.heap.size, 3, none⟩) l_12).trans c3_12
      have B_13 := Lib.hid (B_12.out.trans (b_13.mono B_12.out.size))
      have l_13 := Nat.lt_of_lt_of_le l_12 b_13.size
      have Sp313 := Lib.hid s_13
      clear Sus12 Sa12 Sb12 Sc12 Sd12 Sk12 Sp112 Sp212 c0_12 c1_12 c2_12 c3_12 B_12 l_12 b_13
      clear s_13
      go_wp2_with fail
      refine (purgeE (now := now) (c := kp3) HLL.out Sp313.out (by omega)).mono ?_
      rintro e w_14 ⟨Ap4, kp4, rfl, s_14, b_14⟩
      have Sus14 := Lib.hid ((Sus13.out.below b_14).more b_14.size)
      have Sa14 := Lib.hid ((Sa13.out.below b_14).more b_14.size)
      have Sb14 := Lib.hid ((Sb13.out.below b_14).more b_14.size)
      have Sc14 := Lib.hid ((Sc13.out.below b_14).more b_14.size)
      have Sd14 := Lib.hid ((Sd13.out.below b_14).more b_14.size)
      have Sk14 := Lib.hid ((Sk13.out.below b_14).more b_14.size)
      have Sp114 := Lib.hid ((Sp113.out.below b_14).more b_14.size)
      have Sp214 := Lib.hid ((Sp213.out.below b_14).more b_14.size)
      have Sp314 := Lib.hid ((Sp313.out.below b_14).more b_14.size)
      have c0_14 : w_14.cell? ⟨w.heap.size, 0, none⟩ = some (.int .i64 x0) := (b_14.cell (p := ⟨w.heap.size, 0, none⟩) l_13).trans c0_13
      have c1_14 : w_14.cell? ⟨w.heap.size, 1, none⟩ = some (.int .i64 x1) := (b_14.cell (p := ⟨w.heap.size, 1, none⟩) l_13).trans c1_13
      have c2_14 : w_14.cell? ⟨w.heap.size, 2, none⟩ = some (.int .i64 x2) := (b_14.cell (p := ⟨w.heap.size, 2, none⟩) l_13).trans c2_13
      have c3_14 : w_14.cell? ⟨w.heap.size, 3, none⟩ = some (.int .u64 x3) := (b_14.cell (p := ⟨w.heap.size, 3, none⟩) l_13).trans c3_13
      have B_14 := Lib.hid (B_13.out.trans (b_14.mono B_13.out.size))
      have l_14 := Nat.lt_of_lt_of_le l_13 b_14.size
      have Sp414 := Lib.hid s_14
      clear Sus13 Sa13 Sb13 Sc13 Sd13 Sk13 Sp113 Sp213 Sp313 c0_13 c1_13 c2_13 c3_13 B_13 l_13 b_14
      clear s_14
      go_wp2_with fail
      refine (purgeE (now := now) (c := cc2) HLn.out Sus14.out (by omega)).mono ?_
      rintro e w_15 ⟨Ap5, kp5, rfl, s_15, b_15⟩
      have Sus15 := Lib.hid ((Sus14.out.below b_15).more b_15.size)
      have Sa15 := Lib.hid ((Sa14.out.below b_15).more b_15.size)
      have Sb15 := Lib.hid ((Sb14.out.below b_15).more b_15.size)
      have Sc15 := Lib.hid ((Sc14.out.below b_15).more b_15.size)
      have Sd15 := Lib.hid ((Sd14.out.below b_15).more b_15.size)
      have Sk15 := Lib.hid ((Sk14.out.below b_15).more b_15.size)
      have Sp115 := Lib.hid ((Sp114.out.below b_15).more b_15.size)
      have Sp215 := Lib.hid ((Sp214.out.below b_15).more b_15.size)
      have Sp315 := Lib.hid ((Sp314.out.below b_15).more b_15.size)
      have Sp415 := Lib.hid ((Sp414.out.below b_15).more b_15.size)
      have c0_15 : w_15.cell? ⟨w.heap.size, 0, none⟩ = some (.int .i64 x0) := (b_15.cell (p := ⟨w.heap.size, 0, none⟩) l_14).trans c0_14
      have c1_15 : w_15.cell? ⟨w.heap.size, 1, none⟩ = some (.int .i64 x1) := (b_15.cell (p := ⟨w.heap.size, 1, none⟩) l_14).trans c1_14
      have c2_15 : w_15.cell? ⟨w.heap.size, 2, none⟩ = some (.int .i64 x2) := (b_15.cell (p := ⟨w.heap.size, 2, none⟩) l_14).trans c2_14
      have c3_15 : w_15.cell? ⟨w.heap.size, 3, none⟩ = some (.int .u64 x3) := (b_15.cell (p := ⟨w.heap.size, 3, none⟩) l_14).trans c3_14
      have B_15 := Lib.hid (B_14.out.trans (b_15.mono B_14.out.size))
      have l_15 := Nat.lt_of_lt_of_le l_14 b_15.size
      have Sp515 := Lib.hid s_15
      clear Sus14 Sa14 Sb14 Sc14 Sd14 Sk14 Sp114 Sp214 Sp314 Sp414 c0_14 c1_14 c2_14 c3_14 B_14 l_14 b_15
      clear s_15
      go_wp2_with fail
      refine (refSame ln Ap4 Ap5 kp4 kp5 _ Sp415.out Sp515.out (by omega)).mono ?_
      rintro e w_16 ⟨rfl, b_16⟩
      have Sus16 := Lib.hid ((Sus15.out.below b_16).more b_16.size)
      have Sa16 := Lib.hid ((Sa15.out.below b_16).more b_16.size)
      have Sb16 := Lib.hid ((Sb15.out.below b_16).more b_16.size)
      have Sc16 := Lib.hid ((Sc15.out.below b_16).more b_16.size)
      have Sd16 := Lib.hid ((Sd15.out.below b_16).more b_16.size)
      have Sk16 := Lib.hid ((Sk15.out.below b_16).more b_16.size)
      have Sp116 := Lib.hid ((Sp115.out.below b_16).more b_16.size)
      have Sp216 := Lib.hid ((Sp215.out.below b_16).more b_16.size)
      have Sp316 := Lib.hid ((Sp315.out.below b_16).more b_16.size)
      have Sp416 := Lib.hid ((Sp415.out.below b_16).more b_16.size)
      have Sp516 := Lib.hid ((Sp515.out.below b_16).more b_16.size)
      have c0_16 : w_16.cell? ⟨w.heap.size, 0, none⟩ = some (.int .i64 x0) := (b_16.cell (p := ⟨w.heap.size, 0, none⟩) l_15).trans c0_15
      have c1_16 : w_16.cell? ⟨w.heap.size, 1, none⟩ = some (.int .i64 x1) := (b_16.cell (p := ⟨w.heap.size, 1, none⟩) l_15).trans c1_15
      have c2_16 : w_16.cell? ⟨w.heap.size, 2, none⟩ = some (.int .i64 x2) := (b_16.cell (p := ⟨w.heap.size, 2, none⟩) l_15).trans c2_15
      have c3_16 : w_16.cell? ⟨w.heap.size, 3, none⟩ = some (.int .u64 x3) := (b_16.cell (p := ⟨w.heap.size, 3, none⟩) l_15).trans c3_15
      have B_16 := Lib.hid (B_15.out.trans (b_16.mono B_15.out.size))
      have l_16 := Nat.lt_of_lt_of_le l_15 b_16.size
      clear Sus15 Sa15 Sb15 Sc15 Sd15 Sk15 Sp115 Sp215 Sp315 Sp415 Sp515 c0_15 c1_15 c2_15 c3_15 B_15 l_15 b_16
      go_wp2_with fail
      go_ret
      exact ⟨rfl, B_16.out⟩

set_option maxRecDepth 100000 in
theorem lifted (os : Os) (started : os.Started) (H : Type) (enc : TypeId × Value → H) :
    ReturnsInHanded {} Try.checked os 6 .any (Rows.sessTwiceSpec.pre6 enc Try.prog Try.f6 Rows.sessTwiceRow.domain false) (Rows.sessTwiceSpec.post enc Try.prog Try.f6 false true false false) := by
  refine returnsInHanded_of_change (C := Try.checked) own started (by kernel_rfl) Try.func6
    (ChangeSpec.witness6 (enc := enc) (C := Try.checked) false ⟨#[], #[.slice none 0 0, Law.V (0, 0, 0, 0), .int .u64 0, .int .u64 0], []⟩ 8 (by kernel_rfl) (by kernel_rfl) (by kernel_rfl) (by kernel_rfl)) ?_
  intro W base args ds gs before hval0 hW hcnd _
  have hval : ∀ (j : Nat) t v, Try.f6.params[j]? = some t → args[j]? = some v → Value.okWide Try.prog W .any base t v := hval0
  have hW' := hW
  obtain ⟨p, q, hA0, hV, rfl, hfz, hnd⟩ := hW
  have hA : DataW.TrodAll enc Try.prog W 0 (fun _ => true) true Try.f6.params.toList args.toList ds p := hA0
  rw [Try.params6] at hA hval
  obtain ⟨v0, vs0, d0, ds0, p0, q0, hargs, rfl, rfl, h0, r0⟩ := trodAll_cons hA
  obtain ⟨v1, vs1, d1, ds1, p1, q1, rfl, rfl, rfl, h1, r1⟩ := trodAll_cons r0
  obtain ⟨v2, vs2, d2, ds2, p2, q2, rfl, rfl, rfl, h2, r2⟩ := trodAll_cons r1
  obtain ⟨v3, vs3, d3, ds3, p3, q3, rfl, rfl, rfl, h3, r3⟩ := trodAll_cons r2
  obtain ⟨rfl, rfl, rfl⟩ := trodAll_nil r3
  obtain rfl : args = #[v0, v1, v2, v3] := by cases args; simp_all
  obtain ⟨A, c, l, rfl, hs, hl⟩ := Law.open_sess Try.underlying22 Try.underlying25 (by kernel_rfl) rfl rfl rfl rfl (by kernel_rfl) (by kernel_rfl) (by kernel_rfl) (by kernel_rfl) (by kernel_rfl) (by kernel_rfl) (by kernel_rfl) (by kernel_rfl) (hval 0 22 v0 rfl rfl) h0
  obtain ⟨s, rfl⟩ := open_one (hval 1 25 v1 rfl rfl) h1
  obtain ⟨a2, rfl, rfl, rfl, w2⟩ := open_int Try.underlying23 (hval 2 23 v2 rfl rfl) h2
  obtain ⟨a3, rfl, rfl, rfl, w3⟩ := open_int Try.underlying23 (hval 3 23 v3 rfl rfl) h3
  refine (walk l A c s a2 a3 W hs hl).mono fun e W' ⟨he, bel⟩ => ?_
  subst he
  exact ⟨_, rfl, Law.post_law laidOut (by kernel_rfl) (by kernel_rfl) Try.underlying4 rfl (fun ds h => by match ds, h with | [_, _, _, _], _ => rfl) hW' bel⟩

theorem proved : Rows.SessTwiceSaid :=
  OpenClaim.holds_of_wide 6 Try.f6 rfl rfl rfl rfl rfl rfl rfl ⟨rfl, rfl, rfl, rfl, rfl⟩ rfl rfl rfl rfl rfl (by kernel_rfl) Try.func6 (by kernel_rfl)
    (of_decide_eq_true (by kernel_rfl)) (by unfold Func.isWrapper; rw [if_neg (by decide +kernel)]; exact ⟨rfl, rfl⟩)
    (fun os started H enc _ => lifted os started H enc)
#print axioms proved
end Go.Proofs.Ytgnfgiiifohjhaa.sessTwice
