/-
  SessPlays: whatever the sessions, the session, the number and the time, the statement's function returns true, and the arguments read as before. No condition.
-/
import Derived.Test.YtgnfgiiifohjhaaSessO
import Derived.Test.YtgnfgiiifohjhaaSessU
namespace Go.Proofs.Ytgnfgiiifohjhaa.sessPlays
open Go.ChangeShapes Go.WideShapes Go.ChangeAt Go.RowKit
open Go.Law Go.Proofs.Ytgnfgiiifohjhaa.Sess

set_option maxRecDepth 100000 in
set_option maxHeartbeats 6400000 in
theorem walk (raw : List Sn) (A : Option Addr) (c : Nat) (s : Sn) (most now : Int) (w : World) (hs : Seq w 0 w.heap.size A (flatS raw)) (hl : raw.length ≤ maxLen) :
    Calls Try.prog 3 #[.slice A raw.length c, V s, .int .i64 most, .int .u64 now] w fun e w' => e = .returned (.bool true) ∧ Below w.heap.size w w' := by
  have HS := Lib.hid hs
  unfold maxLen at hl
  obtain ⟨x0, x1, x2, x3⟩ := s
  unfold V
  clear hs
  have B0 := (Below.refl w.heap.size w).alloc (Nat.le_refl _) (.cells #[.int .i64 x0, .int .i64 x1, .int .i64 x2, .int .u64 x3] 25)
  have I0 : Is (w.alloc (.cells #[.int .i64 x0, .int .i64 x1, .int .i64 x2, .int .u64 x3] 25)) w.heap.size 25 #[.int .i64 x0, .int .i64 x1, .int .i64 x2, .int .u64 x3] := Is.new _ _ _ rfl
  by_cases hf : 200 < raw.length
  · have d0 : decide ((200 : Int) < (raw.length : Int)) = true := by simp; omega
    go_enter Try.func3, Try.ntmps3
    go_wp2_with fail
    generalize w.alloc (.cells #[.int .i64 x0, .int .i64 x1, .int .i64 x2, .int .u64 x3] 25) = w0 at *
    refine (awake _).mono ?_
    rintro e w1 ⟨rfl, b1⟩
    have B1 := Lib.hid (B0.trans (b1.mono B0.size))
    clear b1 B0 I0
    go_wp2_with fail
    refine (awake _).mono ?_
    rintro e w2 ⟨rfl, b2⟩
    have B2 := Lib.hid (B1.out.trans (b2.mono B1.out.size))
    clear b2
    go_wp2_with fail
    go_ret
    exact ⟨rfl, B2.out⟩
  · have d0 : decide ((200 : Int) < (raw.length : Int)) = false := by simp; omega
    go_enter Try.func3, Try.ntmps3
    go_wp2_with fail
    generalize w.alloc (.cells #[.int .i64 x0, .int .i64 x1, .int .i64 x2, .int .u64 x3] 25) = w0 at *
    refine (awake _).mono ?_
    rintro e w1 ⟨rfl, b1⟩
    have B1 := Lib.hid (B0.trans (b1.mono B0.size))
    have I1 := Lib.hid (I0.below b1 I0.lt)
    have sb1 := B1.out.size
    have l1 := I1.out.lt
    clear b1 B0 I0
    go_wp2_with fail
    refine (refSorted raw A c w1 ((HS.out.below B1.out).more B1.out.size) (by omega)).mono ?_
    rintro e w2 ⟨us, hu, hul, A2, cc2, rfl, r2, b2⟩
    have HU := Lib.hid hu
    have S2 := Lib.hid ((Seq.own r2).from_ (Nat.zero_le _))
    have sb2 := b2.size
    have B2 := Lib.hid (B1.out.trans (b2.mono sb1))
    have I2 := Lib.hid (I1.out.below b2 l1)
    have l2 := I2.out.lt
    have hul2 : us.length ≤ 200 := by omega
    have c0 : w2.cell? ⟨w.heap.size, 0, none⟩ = some (.int .i64 x0) := I2.out.cell' rfl
    have c1 : w2.cell? ⟨w.heap.size, 1, none⟩ = some (.int .i64 x1) := I2.out.cell' rfl
    have c2 : w2.cell? ⟨w.heap.size, 2, none⟩ = some (.int .i64 x2) := I2.out.cell' rfl
    have c3 : w2.cell? ⟨w.heap.size, 3, none⟩ = some (.int .u64 x3) := I2.out.cell' rfl
    clear hu r2 b2 B1 I1 HS hul
    obtain ⟨i0, hE⟩ := elem
    have HE := Lib.hid hE
    clear hE
    obtain ⟨ls, er, hset, hsl⟩ := SetTo.ex (x0, x1, x2, x3) most us
    obtain ⟨lb, eb, hbt, hbl0⟩ := BeatTo.ex x0 now us
    have hbl : lb.length ≤ us.length := Nat.le_of_eq hbl0
    clear hbl0
    have HSet := Lib.hid hset
    have HBt := Lib.hid hbt
    have hll := live_length now us
    have hol := out_length_le x0 us
    clear hset hbt
    obtain ⟨bh, hbh⟩ : ∃ b, hasS x0 us = b := ⟨_, rfl⟩
    have HH := Lib.hid hbh
    clear hbh
    obtain ⟨ed, hed⟩ : ∃ ed : Int, ed = if bh then 0 else 3 := ⟨_, rfl⟩
    have HEd := Lib.hid hed
    clear hed
    go_wp2_with (at_builtin; refine Law.wpList_append_seq _ w2.heap.size 22 rfl _ _ rfl HE.out _ 0 [] rfl (own_empty w2 25 (Nat.le_refl _)) 0 w2.heap.size A2 us.length cc2 (flatS us) rfl (flatS_length us) (S2.out.alloc (Nat.le_refl _) _) (flatS_one _) (by unfold maxLen; omega) (by omega) (by simp) ?_)
    intro v_3 w_3 hown_3 hgrow_3
    have b_3 : Below w2.heap.size w2 w_3 := ((Below.refl w2.heap.size w2).alloc (Nat.le_refl _) (.cells #[] 25)).grown hgrow_3 (by simp) (fun g hg => ((own_empty w2 25 (Nat.le_refl _)).lt g hg).1)
    obtain ⟨Awas, kwas, rfl, _⟩ := own_shape hown_3
    have s_3 := (Seq.own hown_3).from_ (Nat.zero_le _)
    have Sus3 := Lib.hid ((S2.out.below b_3).more b_3.size)
    have c0_3 : w_3.cell? ⟨w.heap.size, 0, none⟩ = some (.int .i64 x0) := (b_3.cell (p := ⟨w.heap.size, 0, none⟩) l2).trans c0
    have c1_3 : w_3.cell? ⟨w.heap.size, 1, none⟩ = some (.int .i64 x1) := (b_3.cell (p := ⟨w.heap.size, 1, none⟩) l2).trans c1
    have c2_3 : w_3.cell? ⟨w.heap.size, 2, none⟩ = some (.int .i64 x2) := (b_3.cell (p := ⟨w.heap.size, 2, none⟩) l2).trans c2
    have c3_3 : w_3.cell? ⟨w.heap.size, 3, none⟩ = some (.int .u64 x3) := (b_3.cell (p := ⟨w.heap.size, 3, none⟩) l2).trans c3
    have B_3 := Lib.hid (B2.out.trans (b_3.mono B2.out.size))
    have l_3 := Nat.lt_of_lt_of_le l2 b_3.size
    have Swas3 := Lib.hid s_3
    clear S2 c0 c1 c2 c3 B2 l2 b_3
    clear s_3 hown_3 hgrow_3
    go_wp2_with fail
    refine (purgeG (now := now) (c := cc2) Sus3.out (by omega)).mono ?_
    rintro e w_4 ⟨Aa, ka, rfl, s_4, b_4⟩
    have Sus4 := Lib.hid ((Sus3.out.below b_4).more b_4.size)
    have Swas4 := Lib.hid ((Swas3.out.below b_4).more b_4.size)
    have c0_4 : w_4.cell? ⟨w.heap.size, 0, none⟩ = some (.int .i64 x0) := (b_4.cell (p := ⟨w.heap.size, 0, none⟩) l_3).trans c0_3
    have c1_4 : w_4.cell? ⟨w.heap.size, 1, none⟩ = some (.int .i64 x1) := (b_4.cell (p := ⟨w.heap.size, 1, none⟩) l_3).trans c1_3
    have c2_4 : w_4.cell? ⟨w.heap.size, 2, none⟩ = some (.int .i64 x2) := (b_4.cell (p := ⟨w.heap.size, 2, none⟩) l_3).trans c2_3
    have c3_4 : w_4.cell? ⟨w.heap.size, 3, none⟩ = some (.int .u64 x3) := (b_4.cell (p := ⟨w.heap.size, 3, none⟩) l_3).trans c3_3
    have B_4 := Lib.hid (B_3.out.trans (b_4.mono B_3.out.size))
    have l_4 := Nat.lt_of_lt_of_le l_3 b_4.size
    have Sa4 := Lib.hid s_4
    clear Sus3 Swas3 c0_3 c1_3 c2_3 c3_3 B_3 l_3 b_4
    clear s_4
    go_wp2_with fail
    refine (setG (c := cc2) HSet.out Sus4.out (by omega) HU.out).mono ?_
    rintro e w_5 ⟨Ab, kb, rfl, s_5, b_5⟩
    have Sus5 := Lib.hid ((Sus4.out.below b_5).more b_5.size)
    have Swas5 := Lib.hid ((Swas4.out.below b_5).more b_5.size)
    have Sa5 := Lib.hid ((Sa4.out.below b_5).more b_5.size)
    have c0_5 : w_5.cell? ⟨w.heap.size, 0, none⟩ = some (.int .i64 x0) := (b_5.cell (p := ⟨w.heap.size, 0, none⟩) l_4).trans c0_4
    have c1_5 : w_5.cell? ⟨w.heap.size, 1, none⟩ = some (.int .i64 x1) := (b_5.cell (p := ⟨w.heap.size, 1, none⟩) l_4).trans c1_4
    have c2_5 : w_5.cell? ⟨w.heap.size, 2, none⟩ = some (.int .i64 x2) := (b_5.cell (p := ⟨w.heap.size, 2, none⟩) l_4).trans c2_4
    have c3_5 : w_5.cell? ⟨w.heap.size, 3, none⟩ = some (.int .u64 x3) := (b_5.cell (p := ⟨w.heap.size, 3, none⟩) l_4).trans c3_4
    have B_5 := Lib.hid (B_4.out.trans (b_5.mono B_4.out.size))
    have l_5 := Nat.lt_of_lt_of_le l_4 b_5.size
    have Sb5 := Lib.hid s_5
    clear Sus4 Swas4 Sa4 c0_4 c1_4 c2_4 c3_4 B_4 l_4 b_5
    clear s_5
    go_wp2_with fail
    refine (beatG (c := cc2) HBt.out Sus5.out (by omega) HU.out).mono ?_
    rintro e w_6 ⟨Ac, kc, rfl, s_6, b_6⟩
    have Sus6 := Lib.hid ((Sus5.out.below b_6).more b_6.size)
    have Swas6 := Lib.hid ((Swas5.out.below b_6).more b_6.size)
    have Sa6 := Lib.hid ((Sa5.out.below b_6).more b_6.size)
    have Sb6 := Lib.hid ((Sb5.out.below b_6).more b_6.size)
    have c0_6 : w_6.cell? ⟨w.heap.size, 0, none⟩ = some (.int .i64 x0) := (b_6.cell (p := ⟨w.heap.size, 0, none⟩) l_5).trans c0_5
    have c1_6 : w_6.cell? ⟨w.heap.size, 1, none⟩ = some (.int .i64 x1) := (b_6.cell (p := ⟨w.heap.size, 1, none⟩) l_5).trans c1_5
    have c2_6 : w_6.cell? ⟨w.heap.size, 2, none⟩ = some (.int .i64 x2) := (b_6.cell (p := ⟨w.heap.size, 2, none⟩) l_5).trans c2_5
    have c3_6 : w_6.cell? ⟨w.heap.size, 3, none⟩ = some (.int .u64 x3) := (b_6.cell (p := ⟨w.heap.size, 3, none⟩) l_5).trans c3_5
    have B_6 := Lib.hid (B_5.out.trans (b_6.mono B_5.out.size))
    have l_6 := Nat.lt_of_lt_of_le l_5 b_6.size
    have Sc6 := Lib.hid s_6
    clear Sus5 Swas5 Sa5 Sb5 c0_5 c1_5 c2_5 c3_5 B_5 l_5 b_6
    clear s_6
    go_wp2_with fail
    refine (clearG (c := cc2) bh HH.out HEd.out Sus6.out (by omega) HU.out).mono ?_
    rintro e w_7 ⟨Ad, kd, rfl, s_7, b_7⟩
    have Sus7 := Lib.hid ((Sus6.out.below b_7).more b_7.size)
    have Swas7 := Lib.hid ((Swas6.out.below b_7).more b_7.size)
    have Sa7 := Lib.hid ((Sa6.out.below b_7).more b_7.size)
    have Sb7 := Lib.hid ((Sb6.out.below b_7).more b_7.size)
    have Sc7 := Lib.hid ((Sc6.out.below b_7).more b_7.size)
    have c0_7 : w_7.cell? ⟨w.heap.size, 0, none⟩ = some (.int .i64 x0) := (b_7.cell (p := ⟨w.heap.size, 0, none⟩) l_6).trans c0_6
    have c1_7 : w_7.cell? ⟨w.heap.size, 1, none⟩ = some (.int .i64 x1) := (b_7.cell (p := ⟨w.heap.size, 1, none⟩) l_6).trans c1_6
    have c2_7 : w_7.cell? ⟨w.heap.size, 2, none⟩ = some (.int .i64 x2) := (b_7.cell (p := ⟨w.heap.size, 2, none⟩) l_6).trans c2_6
    have c3_7 : w_7.cell? ⟨w.heap.size, 3, none⟩ = some (.int .u64 x3) := (b_7.cell (p := ⟨w.heap.size, 3, none⟩) l_6).trans c3_6
    have B_7 := Lib.hid (B_6.out.trans (b_7.mono B_6.out.size))
    have l_7 := Nat.lt_of_lt_of_le l_6 b_7.size
    have Sd7 := Lib.hid s_7
    clear Sus6 Swas6 Sa6 Sb6 Sc6 c0_6 c1_6 c2_6 c3_6 B_6 l_6 b_7
    clear s_7
    go_wp2_with fail
    refine (refSetG (c := cc2) HSet.out Sus7.out (by omega) HU.out).mono ?_
    rintro e w_8 ⟨Ars, krs, rfl, s_8, b_8⟩
    have Sus8 := Lib.hid ((Sus7.out.below b_8).more b_8.size)
    have Swas8 := Lib.hid ((Swas7.out.below b_8).more b_8.size)
    have Sa8 := Lib.hid ((Sa7.out.below b_8).more b_8.size)
    have Sb8 := Lib.hid ((Sb7.out.below b_8).more b_8.size)
    have Sc8 := Lib.hid ((Sc7.out.below b_8).more b_8.size)
    have Sd8 := Lib.hid ((Sd7.out.below b_8).more b_8.size)
    have c0_8 : w_8.cell? ⟨w.heap.size, 0, none⟩ = some (.int .i64 x0) := (b_8.cell (p := ⟨w.heap.size, 0, none⟩) l_7).trans c0_7
    have c1_8 : w_8.cell? ⟨w.heap.size, 1, none⟩ = some (.int .i64 x1) := (b_8.cell (p := ⟨w.heap.size, 1, none⟩) l_7).trans c1_7
    have c2_8 : w_8.cell? ⟨w.heap.size, 2, none⟩ = some (.int .i64 x2) := (b_8.cell (p := ⟨w.heap.size, 2, none⟩) l_7).trans c2_7
    have c3_8 : w_8.cell? ⟨w.heap.size, 3, none⟩ = some (.int .u64 x3) := (b_8.cell (p := ⟨w.heap.size, 3, none⟩) l_7).trans c3_7
    have B_8 := Lib.hid (B_7.out.trans (b_8.mono B_7.out.size))
    have l_8 := Nat.lt_of_lt_of_le l_7 b_8.size
    have Srs8 := Lib.hid s_8
    clear Sus7 Swas7 Sa7 Sb7 Sc7 Sd7 c0_7 c1_7 c2_7 c3_7 B_7 l_7 b_8
    clear s_8
    go_wp2_with fail
    refine (refBeatG (c := cc2) HBt.out Sus8.out (by omega)).mono ?_
    rintro e w_9 ⟨Arb, krb, rfl, s_9, b_9⟩
    have Sus9 := Lib.hid ((Sus8.out.below b_9).more b_9.size)
    have Swas9 := Lib.hid ((Swas8.out.below b_9).more b_9.size)
    have Sa9 := Lib.hid ((Sa8.out.below b_9).more b_9.size)
    have Sb9 := Lib.hid ((Sb8.out.below b_9).more b_9.size)
    have Sc9 := Lib.hid ((Sc8.out.below b_9).more b_9.size)
    have Sd9 := Lib.hid ((Sd8.out.below b_9).more b_9.size)
    have Srs9 := Lib.hid ((Srs8.out.below b_9).more b_9.size)
    have c0_9 : w_9.cell? ⟨w.heap.size, 0, none⟩ = some (.int .i64 x0) := (b_9.cell (p := ⟨w.heap.size, 0, none⟩) l_8).trans c0_8
    have c1_9 : w_9.cell? ⟨w.heap.size, 1, none⟩ = some (.int .i64 x1) := (b_9.cell (p := ⟨w.heap.size, 1, none⟩) l_8).trans c1_8
    have c2_9 : w_9.cell? ⟨w.heap.size, 2, none⟩ = some (.int .i64 x2) := (b_9.cell (p := ⟨w.heap.size, 2, none⟩) l_8).trans c2_8
    have c3_9 : w_9.cell? ⟨w.heap.size, 3, none⟩ = some (.int .u64 x3) := (b_9.cell (p := ⟨w.heap.size, 3, none⟩) l_8).trans c3_8
    have B_9 := Lib.hid (B_8.out.trans (b_9.mono B_8.out.size))
    have l_9 := Nat.lt_of_lt_of_le l_8 b_9.size
    have Srb9 := Lib.hid s_9
    clear Sus8 Swas8 Sa8 Sb8 Sc8 Sd8 Srs8 c0_8 c1_8 c2_8 c3_8 B_8 l_8 b_9
    clear s_9
    go_wp2_with fail
    refine (refHas x0 us A2 cc2 _ Sus9.out (by omega)).mono ?_
    rintro e w_10 ⟨rfl, rfl⟩
    rw [HH.out]
    cases bh with
    | true =>
      obtain rfl : ed = 0 := HEd.out
      clear HEd
      go_wp2_with fail
      refine (refSame us A2 Awas cc2 kwas _ Sus9.out Swas9.out (by omega)).mono ?_
      rintro e w_11 ⟨rfl, b_11⟩
      have Sus11 := Lib.hid ((Sus9.out.below b_11).more b_11.size)
      have Swas11 := Lib.hid ((Swas9.out.below b_11).more b_11.size)
      have Sa11 := Lib.hid ((Sa9.out.below b_11).more b_11.size)
      have Sb11 := Lib.hid ((Sb9.out.below b_11).more b_11.size)
      have Sc11 := Lib.hid ((Sc9.out.below b_11).more b_11.size)
      have Sd11 := Lib.hid ((Sd9.out.below b_11).more b_11.size)
      have Srs11 := Lib.hid ((Srs9.out.below b_11).more b_11.size)
      have Srb11 := Lib.hid ((Srb9.out.below b_11).more b_11.size)
      have c0_11 : w_11.cell? ⟨w.heap.size, 0, none⟩ = some (.int .i64 x0) := (b_11.cell (p := ⟨w.heap.size, 0, none⟩) l_9).trans c0_9
      have c1_11 : w_11.cell? ⟨w.heap.size, 1, none⟩ = some (.int .i64 x1) := (b_11.cell (p := ⟨w.heap.size, 1, none⟩) l_9).trans c1_9
      have c2_11 : w_11.cell? ⟨w.heap.size, 2, none⟩ = some (.int .i64 x2) := (b_11.cell (p := ⟨w.heap.size, 2, none⟩) l_9).trans c2_9
      have c3_11 : w_11.cell? ⟨w.heap.size, 3, none⟩ = some (.int .u64 x3) := (b_11.cell (p := ⟨w.heap.size, 3, none⟩) l_9).trans c3_9
      have B_11 := Lib.hid (B_9.out.trans (b_11.mono B_9.out.size))
      have l_11 := Nat.lt_of_lt_of_le l_9 b_11.size
      clear Sus9 Swas9 Sa9 Sb9 Sc9 Sd9 Srs9 Srb9 c0_9 c1_9 c2_9 c3_9 B_9 l_9 b_11
      go_wp2_with fail
      refine (refPurgeG (now := now) (c := cc2) Sus11.out (by omega)).mono ?_
      rintro e w_12 ⟨Ara, kra, rfl, s_12, b_12⟩
      have Sus12 := Lib.hid ((Sus11.out.below b_12).more b_12.size)
      have Swas12 := Lib.hid ((Swas11.out.below b_12).more b_12.size)
      have Sa12 := Lib.hid ((Sa11.out.below b_12).more b_12.size)
      have Sb12 := Lib.hid ((Sb11.out.below b_12).more b_12.size)
      have Sc12 := Lib.hid ((Sc11.out.below b_12).more b_12.size)
      have Sd12 := Lib.hid ((Sd11.out.below b_12).more b_12.size)
      have Srs12 := Lib.hid ((Srs11.out.below b_12).more b_12.size)
      have Srb12 := Lib.hid ((Srb11.out.below b_12).more b_12.size)
      have c0_12 : w_12.cell? ⟨w.heap.size, 0, none⟩ = some (.int .i64 x0) := (b_12.cell (p := ⟨w.heap.size, 0, none⟩) l_11).trans c0_11
      have c1_12 : w_12.cell? ⟨w.heap.size, 1, none⟩ = some (.int .i64 x1) := (b_12.cell (p := ⟨w.heap.size, 1, none⟩) l_11).trans c1_11
      have c2_12 : w_12.cell? ⟨w.heap.size, 2, none⟩ = some (.int .i64 x2) := (b_12.cell (p := ⟨w.heap.size, 2, none⟩) l_11).trans c2_11
      have c3_12 : w_12.cell? ⟨w.heap.size, 3, none⟩ = some (.int .u64 x3) := (b_12.cell (p := ⟨w.heap.size, 3, none⟩) l_11).trans c3_11
      have B_12 := Lib.hid (B_11.out.trans (b_12.mono B_11.out.size))
      have l_12 := Nat.lt_of_lt_of_le l_11 b_12.size
      have Sra12 := Lib.hid s_12
      clear Sus11 Swas11 Sa11 Sb11 Sc11 Sd11 Srs11 Srb11 c0_11 c1_11 c2_11 c3_11 B_11 l_11 b_12
      clear s_12
      go_wp2_with fail
      refine (refSame (live now us) Aa Ara ka kra _ Sa12.out Sra12.out (by omega)).mono ?_
      rintro e w_13 ⟨rfl, b_13⟩
      have Sus13 := Lib.hid ((Sus12.out.below b_13).more b_13.size)
      have Swas13 := Lib.hid ((Swas12.out.below b_13).more b_13.size)
      have Sa13 := Lib.hid ((Sa12.out.below b_13).more b_13.size)
      have Sb13 := Lib.hid ((Sb12.out.below b_13).more b_13.size)
      have Sc13 := Lib.hid ((Sc12.out.below b_13).more b_13.size)
      have Sd13 := Lib.hid ((Sd12.out.below b_13).more b_13.size)
      have Srs13 := Lib.hid ((Srs12.out.below b_13).more b_13.size)
      have Srb13 := Lib.hid ((Srb12.out.below b_13).more b_13.size)
      have Sra13 := Lib.hid ((Sra12.out.below b_13).more b_13.size)
      have c0_13 : w_13.cell? ⟨w.heap.size, 0, none⟩ = some (.int .i64 x0) := (b_13.cell (p := ⟨w.heap.size, 0, none⟩) l_12).trans c0_12
      have c1_13 : w_13.cell? ⟨w.heap.size, 1, none⟩ = some (.int .i64 x1) := (b_13.cell (p := ⟨w.heap.size, 1, none⟩) l_12).trans c1_12
      have c2_13 : w_13.cell? ⟨w.heap.size, 2, none⟩ = some (.int .i64 x2) := (b_13.cell (p := ⟨w.heap.size, 2, none⟩) l_12).trans c2_12
      have c3_13 : w_13.cell? ⟨w.heap.size, 3, none⟩ = some (.int .u64 x3) := (b_13.cell (p := ⟨w.heap.size, 3, none⟩) l_12).trans c3_12
      have B_13 := Lib.hid (B_12.out.trans (b_13.mono B_12.out.size))
      have l_13 := Nat.lt_of_lt_of_le l_12 b_13.size
      clear Sus12 Swas12 Sa12 Sb12 Sc12 Sd12 Srs12 Srb12 Sra12 c0_12 c1_12 c2_12 c3_12 B_12 l_12 b_13
      go_wp2_with fail
      refine (refSame ls Ab Ars kb krs _ Sb13.out Srs13.out (by omega)).mono ?_
      rintro e w_14 ⟨rfl, b_14⟩
      have Sus14 := Lib.hid ((Sus13.out.below b_14).more b_14.size)
      have Swas14 := Lib.hid ((Swas13.out.below b_14).more b_14.size)
      have Sa14 := Lib.hid ((Sa13.out.below b_14).more b_14.size)
      have Sb14 := Lib.hid ((Sb13.out.below b_14).more b_14.size)
      have Sc14 := Lib.hid ((Sc13.out.below b_14).more b_14.size)
      have Sd14 := Lib.hid ((Sd13.out.below b_14).more b_14.size)
      have Srs14 := Lib.hid ((Srs13.out.below b_14).more b_14.size)
      have Srb14 := Lib.hid ((Srb13.out.below b_14).more b_14.size)
      have Sra14 := Lib.hid ((Sra13.out.below b_14).more b_14.size)
      have c0_14 : w_14.cell? ⟨w.heap.size, 0, none⟩ = some (.int .i64 x0) := (b_14.cell (p := ⟨w.heap.size, 0, none⟩) l_13).trans c0_13
      have c1_14 : w_14.cell? ⟨w.heap.size, 1, none⟩ = some (.int .i64 x1) := (b_14.cell (p := ⟨w.heap.size, 1, none⟩) l_13).trans c1_13
      have c2_14 : w_14.cell? ⟨w.heap.size, 2, none⟩ = some (.int .i64 x2) := (b_14.cell (p := ⟨w.heap.size, 2, none⟩) l_13).trans c2_13
      have c3_14 : w_14.cell? ⟨w.heap.size, 3, none⟩ = some (.int .u64 x3) := (b_14.cell (p := ⟨w.heap.size, 3, none⟩) l_13).trans c3_13
      have B_14 := Lib.hid (B_13.out.trans (b_14.mono B_13.out.size))
      have l_14 := Nat.lt_of_lt_of_le l_13 b_14.size
      clear Sus13 Swas13 Sa13 Sb13 Sc13 Sd13 Srs13 Srb13 Sra13 c0_13 c1_13 c2_13 c3_13 B_13 l_13 b_14
      go_wp2_with fail
      refine (refSame lb Ac Arb kc krb _ Sc14.out Srb14.out (by omega)).mono ?_
      rintro e w_15 ⟨rfl, b_15⟩
      have Sus15 := Lib.hid ((Sus14.out.below b_15).more b_15.size)
      have Swas15 := Lib.hid ((Swas14.out.below b_15).more b_15.size)
      have Sa15 := Lib.hid ((Sa14.out.below b_15).more b_15.size)
      have Sb15 := Lib.hid ((Sb14.out.below b_15).more b_15.size)
      have Sc15 := Lib.hid ((Sc14.out.below b_15).more b_15.size)
      have Sd15 := Lib.hid ((Sd14.out.below b_15).more b_15.size)
      have Srs15 := Lib.hid ((Srs14.out.below b_15).more b_15.size)
      have Srb15 := Lib.hid ((Srb14.out.below b_15).more b_15.size)
      have Sra15 := Lib.hid ((Sra14.out.below b_15).more b_15.size)
      have c0_15 : w_15.cell? ⟨w.heap.size, 0, none⟩ = some (.int .i64 x0) := (b_15.cell (p := ⟨w.heap.size, 0, none⟩) l_14).trans c0_14
      have c1_15 : w_15.cell? ⟨w.heap.size, 1, none⟩ = some (.int .i64 x1) := (b_15.cell (p := ⟨w.heap.size, 1, none⟩) l_14).trans c1_14
      have c2_15 : w_15.cell? ⟨w.heap.size, 2, none⟩ = some (.int .i64 x2) := (b_15.cell (p := ⟨w.heap.size, 2, none⟩) l_14).trans c2_14
      have c3_15 : w_15.cell? ⟨w.heap.size, 3, none⟩ = some (.int .u64 x3) := (b_15.cell (p := ⟨w.heap.size, 3, none⟩) l_14).trans c3_14
      have B_15 := Lib.hid (B_14.out.trans (b_15.mono B_14.out.size))
      have l_15 := Nat.lt_of_lt_of_le l_14 b_15.size
      clear Sus14 Swas14 Sa14 Sb14 Sc14 Sd14 Srs14 Srb14 Sra14 c0_14 c1_14 c2_14 c3_14 B_14 l_14 b_15
      go_wp2_with fail
      refine (refClearG (k := x0) (c := cc2) Sus15.out (by omega)).mono ?_
      rintro e w_16 ⟨Ard, krd, rfl, s_16, b_16⟩
      have Sus16 := Lib.hid ((Sus15.out.below b_16).more b_16.size)
      have Swas16 := Lib.hid ((Swas15.out.below b_16).more b_16.size)
      have Sa16 := Lib.hid ((Sa15.out.below b_16).more b_16.size)
      have Sb16 := Lib.hid ((Sb15.out.below b_16).more b_16.size)
      have Sc16 := Lib.hid ((Sc15.out.below b_16).more b_16.size)
      have Sd16 := Lib.hid ((Sd15.out.below b_16).more b_16.size)
      have Srs16 := Lib.hid ((Srs15.out.below b_16).more b_16.size)
      have Srb16 := Lib.hid ((Srb15.out.below b_16).more b_16.size)
      have Sra16 := Lib.hid ((Sra15.out.below b_16).more b_16.size)
      have c0_16 : w_16.cell? ⟨w.heap.size, 0, none⟩ = some (.int .i64 x0) := (b_16.cell (p := ⟨w.heap.size, 0, none⟩) l_15).trans c0_15
      have c1_16 : w_16.cell? ⟨w.heap.size, 1, none⟩ = some (.int .i64 x1) := (b_16.cell (p := ⟨w.heap.size, 1, none⟩) l_15).trans c1_15
      have c2_16 : w_16.cell? ⟨w.heap.size, 2, none⟩ = some (.int .i64 x2) := (b_16.cell (p := ⟨w.heap.size, 2, none⟩) l_15).trans c2_15
      have c3_16 : w_16.cell? ⟨w.heap.size, 3, none⟩ = some (.int .u64 x3) := (b_16.cell (p := ⟨w.heap.size, 3, none⟩) l_15).trans c3_15
      have B_16 := Lib.hid (B_15.out.trans (b_16.mono B_15.out.size))
      have l_16 := Nat.lt_of_lt_of_le l_15 b_16.size
      have Srd16 := Lib.hid s_16
      clear Sus15 Swas15 Sa15 Sb15 Sc15 Sd15 Srs15 Srb15 Sra15 c0_15 c1_15 c2_15 c3_15 B_15 l_15 b_16
      clear s_16
      go_wp2_with fail
      refine (refSame (out x0 us) Ad Ard kd krd _ Sd16.out Srd16.out (by omega)).mono ?_
      rintro e w_17 ⟨rfl, b_17⟩
      have Sus17 := Lib.hid ((Sus16.out.below b_17).more b_17.size)
      have Swas17 := Lib.hid ((Swas16.out.below b_17).more b_17.size)
      have Sa17 := Lib.hid ((Sa16.out.below b_17).more b_17.size)
      have Sb17 := Lib.hid ((Sb16.out.below b_17).more b_17.size)
      have Sc17 := Lib.hid ((Sc16.out.below b_17).more b_17.size)
      have Sd17 := Lib.hid ((Sd16.out.below b_17).more b_17.size)
      have Srs17 := Lib.hid ((Srs16.out.below b_17).more b_17.size)
      have Srb17 := Lib.hid ((Srb16.out.below b_17).more b_17.size)
      have Sra17 := Lib.hid ((Sra16.out.below b_17).more b_17.size)
      have Srd17 := Lib.hid ((Srd16.out.below b_17).more b_17.size)
      have c0_17 : w_17.cell? ⟨w.heap.size, 0, none⟩ = some (.int .i64 x0) := (b_17.cell (p := ⟨w.heap.size, 0, none⟩) l_16).trans c0_16
      have c1_17 : w_17.cell? ⟨w.heap.size, 1, none⟩ = some (.int .i64 x1) := (b_17.cell (p := ⟨w.heap.size, 1, none⟩) l_16).trans c1_16
      have c2_17 : w_17.cell? ⟨w.heap.size, 2, none⟩ = some (.int .i64 x2) := (b_17.cell (p := ⟨w.heap.size, 2, none⟩) l_16).trans c2_16
      have c3_17 : w_17.cell? ⟨w.heap.size, 3, none⟩ = some (.int .u64 x3) := (b_17.cell (p := ⟨w.heap.size, 3, none⟩) l_16).trans c3_16
      have B_17 := Lib.hid (B_16.out.trans (b_17.mono B_16.out.size))
      have l_17 := Nat.lt_of_lt_of_le l_16 b_17.size
      clear Sus16 Swas16 Sa16 Sb16 Sc16 Sd16 Srs16 Srb16 Sra16 Srd16 c0_16 c1_16 c2_16 c3_16 B_16 l_16 b_17
      go_wp2_with fail
      go_ret
      exact ⟨rfl, B_17.out⟩
    | false =>
      obtain rfl : ed = 3 := HEd.out
      clear HEd
      go_wp2_with fail
      refine (refSame us A2 Awas cc2 kwas _ Sus9.out Swas9.out (by omega)).mono ?_
      rintro e w_11 ⟨rfl, b_11⟩
      have Sus11 := Lib.hid ((Sus9.out.below b_11).more b_11.size)
      have Swas11 := Lib.hid ((Swas9.out.below b_11).more b_11.size)
      have Sa11 := Lib.hid ((Sa9.out.below b_11).more b_11.size)
      have Sb11 := Lib.hid ((Sb9.out.below b_11).more b_11.size)
      have Sc11 := Lib.hid ((Sc9.out.below b_11).more b_11.size)
      have Sd11 := Lib.hid ((Sd9.out.below b_11).more b_11.size)
      have Srs11 := Lib.hid ((Srs9.out.below b_11).more b_11.size)
      have Srb11 := Lib.hid ((Srb9.out.below b_11).more b_11.size)
      have c0_11 : w_11.cell? ⟨w.heap.size, 0, none⟩ = some (.int .i64 x0) := (b_11.cell (p := ⟨w.heap.size, 0, none⟩) l_9).trans c0_9
      have c1_11 : w_11.cell? ⟨w.heap.size, 1, none⟩ = some (.int .i64 x1) := (b_11.cell (p := ⟨w.heap.size, 1, none⟩) l_9).trans c1_9
      have c2_11 : w_11.cell? ⟨w.heap.size, 2, none⟩ = some (.int .i64 x2) := (b_11.cell (p := ⟨w.heap.size, 2, none⟩) l_9).trans c2_9
      have c3_11 : w_11.cell? ⟨w.heap.size, 3, none⟩ = some (.int .u64 x3) := (b_11.cell (p := ⟨w.heap.size, 3, none⟩) l_9).trans c3_9
      have B_11 := Lib.hid (B_9.out.trans (b_11.mono B_9.out.size))
      have l_11 := Nat.lt_of_lt_of_le l_9 b_11.size
      clear Sus9 Swas9 Sa9 Sb9 Sc9 Sd9 Srs9 Srb9 c0_9 c1_9 c2_9 c3_9 B_9 l_9 b_11
      go_wp2_with fail
      refine (refPurgeG (now := now) (c := cc2) Sus11.out (by omega)).mono ?_
      rintro e w_12 ⟨Ara, kra, rfl, s_12, b_12⟩
      have Sus12 := Lib.hid ((Sus11.out.below b_12).more b_12.size)
      have Swas12 := Lib.hid ((Swas11.out.below b_12).more b_12.size)
      have Sa12 := Lib.hid ((Sa11.out.below b_12).more b_12.size)
      have Sb12 := Lib.hid ((Sb11.out.below b_12).more b_12.size)
      have Sc12 := Lib.hid ((Sc11.out.below b_12).more b_12.size)
      have Sd12 := Lib.hid ((Sd11.out.below b_12).more b_12.size)
      have Srs12 := Lib.hid ((Srs11.out.below b_12).more b_12.size)
      have Srb12 := Lib.hid ((Srb11.out.below b_12).more b_12.size)
      have c0_12 : w_12.cell? ⟨w.heap.size, 0, none⟩ = some (.int .i64 x0) := (b_12.cell (p := ⟨w.heap.size, 0, none⟩) l_11).trans c0_11
      have c1_12 : w_12.cell? ⟨w.heap.size, 1, none⟩ = some (.int .i64 x1) := (b_12.cell (p := ⟨w.heap.size, 1, none⟩) l_11).trans c1_11
      have c2_12 : w_12.cell? ⟨w.heap.size, 2, none⟩ = some (.int .i64 x2) := (b_12.cell (p := ⟨w.heap.size, 2, none⟩) l_11).trans c2_11
      have c3_12 : w_12.cell? ⟨w.heap.size, 3, none⟩ = some (.int .u64 x3) := (b_12.cell (p := ⟨w.heap.size, 3, none⟩) l_11).trans c3_11
      have B_12 := Lib.hid (B_11.out.trans (b_12.mono B_11.out.size))
      have l_12 := Nat.lt_of_lt_of_le l_11 b_12.size
      have Sra12 := Lib.hid s_12
      clear Sus11 Swas11 Sa11 Sb11 Sc11 Sd11 Srs11 Srb11 c0_11 c1_11 c2_11 c3_11 B_11 l_11 b_12
      clear s_12
      go_wp2_with fail
      refine (refSame (live now us) Aa Ara ka kra _ Sa12.out Sra12.out (by omega)).mono ?_
      rintro e w_13 ⟨rfl, b_13⟩
      have Sus13 := Lib.hid ((Sus12.out.below b_13).more b_13.size)
      have Swas13 := Lib.hid ((Swas12.out.below b_13).more b_13.size)
      have Sa13 := Lib.hid ((Sa12.out.below b_13).more b_13.size)
      have Sb13 := Lib.hid ((Sb12.out.below b_13).more b_13.size)
      have Sc13 := Lib.hid ((Sc12.out.below b_13).more b_13.size)
      have Sd13 := Lib.hid ((Sd12.out.below b_13).more b_13.size)
      have Srs13 := Lib.hid ((Srs12.out.below b_13).more b_13.size)
      have Srb13 := Lib.hid ((Srb12.out.below b_13).more b_13.size)
      have Sra13 := Lib.hid ((Sra12.out.below b_13).more b_13.size)
      have c0_13 : w_13.cell? ⟨w.heap.size, 0, none⟩ = some (.int .i64 x0) := (b_13.cell (p := ⟨w.heap.size, 0, none⟩) l_12).trans c0_12
      have c1_13 : w_13.cell? ⟨w.heap.size, 1, none⟩ = some (.int .i64 x1) := (b_13.cell (p := ⟨w.heap.size, 1, none⟩) l_12).trans c1_12
      have c2_13 : w_13.cell? ⟨w.heap.size, 2, none⟩ = some (.int .i64 x2) := (b_13.cell (p := ⟨w.heap.size, 2, none⟩) l_12).trans c2_12
      have c3_13 : w_13.cell? ⟨w.heap.size, 3, none⟩ = some (.int .u64 x3) := (b_13.cell (p := ⟨w.heap.size, 3, none⟩) l_12).trans c3_12
      have B_13 := Lib.hid (B_12.out.trans (b_13.mono B_12.out.size))
      have l_13 := Nat.lt_of_lt_of_le l_12 b_13.size
      clear Sus12 Swas12 Sa12 Sb12 Sc12 Sd12 Srs12 Srb12 Sra12 c0_12 c1_12 c2_12 c3_12 B_12 l_12 b_13
      go_wp2_with fail
      refine (refSame ls Ab Ars kb krs _ Sb13.out Srs13.out (by omega)).mono ?_
      rintro e w_14 ⟨rfl, b_14⟩
      have Sus14 := Lib.hid ((Sus13.out.below b_14).more b_14.size)
      have Swas14 := Lib.hid ((Swas13.out.below b_14).more b_14.size)
      have Sa14 := Lib.hid ((Sa13.out.below b_14).more b_14.size)
      have Sb14 := Lib.hid ((Sb13.out.below b_14).more b_14.size)
      have Sc14 := Lib.hid ((Sc13.out.below b_14).more b_14.size)
      have Sd14 := Lib.hid ((Sd13.out.below b_14).more b_14.size)
      have Srs14 := Lib.hid ((Srs13.out.below b_14).more b_14.size)
      have Srb14 := Lib.hid ((Srb13.out.below b_14).more b_14.size)
      have Sra14 := Lib.hid ((Sra13.out.below b_14).more b_14.size)
      have c0_14 : w_14.cell? ⟨w.heap.size, 0, none⟩ = some (.int .i64 x0) := (b_14.cell (p := ⟨w.heap.size, 0, none⟩) l_13).trans c0_13
      have c1_14 : w_14.cell? ⟨w.heap.size, 1, none⟩ = some (.int .i64 x1) := (b_14.cell (p := ⟨w.heap.size, 1, none⟩) l_13).trans c1_13
      have c2_14 : w_14.cell? ⟨w.heap.size, 2, none⟩ = some (.int .i64 x2) := (b_14.cell (p := ⟨w.heap.size, 2, none⟩) l_13).trans c2_13
      have c3_14 : w_14.cell? ⟨w.heap.size, 3, none⟩ = some (.int .u64 x3) := (b_14.cell (p := ⟨w.heap.size, 3, none⟩) l_13).trans c3_13
      have B_14 := Lib.hid (B_13.out.trans (b_14.mono B_13.out.size))
      have l_14 := Nat.lt_of_lt_of_le l_13 b_14.size
      clear Sus13 Swas13 Sa13 Sb13 Sc13 Sd13 Srs13 Srb13 Sra13 c0_13 c1_13 c2_13 c3_13 B_13 l_13 b_14
      go_wp2_with fail
      refine (refSame lb Ac Arb kc krb _ Sc14.out Srb14.out (by omega)).mono ?_
      rintro e w_15 ⟨rfl, b_15⟩
      have Sus15 := Lib.hid ((Sus14.out.below b_15).more b_15.size)
      have Swas15 := Lib.hid ((Swas14.out.below b_15).more b_15.size)
      have Sa15 := Lib.hid ((Sa14.out.below b_15).more b_15.size)
      have Sb15 := Lib.hid ((Sb14.out.below b_15).more b_15.size)
      have Sc15 := Lib.hid ((Sc14.out.below b_15).more b_15.size)
      have Sd15 := Lib.hid ((Sd14.out.below b_15).more b_15.size)
      have Srs15 := Lib.hid ((Srs14.out.below b_15).more b_15.size)
      have Srb15 := Lib.hid ((Srb14.out.below b_15).more b_15.size)
      have Sra15 := Lib.hid ((Sra14.out.below b_15).more b_15.size)
      have c0_15 : w_15.cell? ⟨w.heap.size, 0, none⟩ = some (.int .i64 x0) := (b_15.cell (p := ⟨w.heap.size, 0, none⟩) l_14).trans c0_14
      have c1_15 : w_15.cell? ⟨w.heap.size, 1, none⟩ = some (.int .i64 x1) := (b_15.cell (p := ⟨w.heap.size, 1, none⟩) l_14).trans c1_14
      have c2_15 : w_15.cell? ⟨w.heap.size, 2, none⟩ = some (.int .i64 x2) := (b_15.cell (p := ⟨w.heap.size, 2, none⟩) l_14).trans c2_14
      have c3_15 : w_15.cell? ⟨w.heap.size, 3, none⟩ = some (.int .u64 x3) := (b_15.cell (p := ⟨w.heap.size, 3, none⟩) l_14).trans c3_14
      have B_15 := Lib.hid (B_14.out.trans (b_15.mono B_14.out.size))
      have l_15 := Nat.lt_of_lt_of_le l_14 b_15.size
      clear Sus14 Swas14 Sa14 Sb14 Sc14 Sd14 Srs14 Srb14 Sra14 c0_14 c1_14 c2_14 c3_14 B_14 l_14 b_15
      go_wp2_with fail
      refine (refClearG (k := x0) (c := cc2) Sus15.out (by omega)).mono ?_
      rintro e w_16 ⟨Ard, krd, rfl, s_16, b_16⟩
      have Sus16 := Lib.hid ((Sus15.out.below b_16).more b_16.size)
      have Swas16 := Lib.hid ((Swas15.out.below b_16).more b_16.size)
      have Sa16 := Lib.hid ((Sa15.out.below b_16).more b_16.size)
      have Sb16 := Lib.hid ((Sb15.out.below b_16).more b_16.size)
      have Sc16 := Lib.hid ((Sc15.out.below b_16).more b_16.size)
      have Sd16 := Lib.hid ((Sd15.out.below b_16).more b_16.size)
      have Srs16 := Lib.hid ((Srs15.out.below b_16).more b_16.size)
      have Srb16 := Lib.hid ((Srb15.out.below b_16).more b_16.size)
      have Sra16 := Lib.hid ((Sra15.out.below b_16).more b_16.size)
      have c0_16 : w_16.cell? ⟨w.heap.size, 0, none⟩ = some (.int .i64 x0) := (b_16.cell (p := ⟨w.heap.size, 0, none⟩) l_15).trans c0_15
      have c1_16 : w_16.cell? ⟨w.heap.size, 1, none⟩ = some (.int .i64 x1) := (b_16.cell (p := ⟨w.heap.size, 1, none⟩) l_15).trans c1_15
      have c2_16 : w_16.cell? ⟨w.heap.size, 2, none⟩ = some (.int .i64 x2) := (b_16.cell (p := ⟨w.heap.size, 2, none⟩) l_15).trans c2_15
      have c3_16 : w_16.cell? ⟨w.heap.size, 3, none⟩ = some (.int .u64 x3) := (b_16.cell (p := ⟨w.heap.size, 3, none⟩) l_15).trans c3_15
      have B_16 := Lib.hid (B_15.out.trans (b_16.mono B_15.out.size))
      have l_16 := Nat.lt_of_lt_of_le l_15 b_16.size
      have Srd16 := Lib.hid s_16
      clear Sus15 Swas15 Sa15 Sb15 Sc15 Sd15 Srs15 Srb15 Sra15 c0_15 c1_15 c2_15 c3_15 B_15 l_15 b_16
      clear s_16
      go_wp2_with fail
      refine (refSame (out x0 us) Ad Ard kd krd _ Sd16.out Srd16.out (by omega)).mono ?_
      rintro e w_17 ⟨rfl, b_17⟩
      have Sus17 := Lib.hid ((Sus16.out.below b_17).more b_17.size)
      have Swas17 := Lib.hid ((Swas16.out.below b_17).more b_17.size)
      have Sa17 := Lib.hid ((Sa16.out.below b_17).more b_17.size)
      have Sb17 := Lib.hid ((Sb16.out.below b_17).more b_17.size)
      have Sc17 := Lib.hid ((Sc16.out.below b_17).more b_17.size)
      have Sd17 := Lib.hid ((Sd16.out.below b_17).more b_17.size)
      have Srs17 := Lib.hid ((Srs16.out.below b_17).more b_17.size)
      have Srb17 := Lib.hid ((Srb16.out.below b_17).more b_17.size)
      have Sra17 := Lib.hid ((Sra16.out.below b_17).more b_17.size)
      have Srd17 := Lib.hid ((Srd16.out.below b_17).more b_17.size)
      have c0_17 : w_17.cell? ⟨w.heap.size, 0, none⟩ = some (.int .i64 x0) := (b_17.cell (p := ⟨w.heap.size, 0, none⟩) l_16).trans c0_16
      have c1_17 : w_17.cell? ⟨w.heap.size, 1, none⟩ = some (.int .i64 x1) := (b_17.cell (p := ⟨w.heap.size, 1, none⟩) l_16).trans c1_16
      have c2_17 : w_17.cell? ⟨w.heap.size, 2, none⟩ = some (.int .i64 x2) := (b_17.cell (p := ⟨w.heap.size, 2, none⟩) l_16).trans c2_16
      have c3_17 : w_17.cell? ⟨w.heap.size, 3, none⟩ = some (.int .u64 x3) := (b_17.cell (p := ⟨w.heap.size, 3, none⟩) l_16).trans c3_16
      have B_17 := Lib.hid (B_16.out.trans (b_17.mono B_16.out.size))
      have l_17 := Nat.lt_of_lt_of_le l_16 b_17.size
      clear Sus16 Swas16 Sa16 Sb16 Sc16 Sd16 Srs16 Srb16 Sra16 Srd16 c0_16 c1_16 c2_16 c3_16 B_16 l_16 b_17
      go_wp2_with fail
      go_ret
      exact ⟨rfl, B_17.out⟩

set_option maxRecDepth 100000 in
theorem lifted (os : Os) (started : os.Started) (H : Type) (enc : TypeId × Value → H) :
    ReturnsInHanded {} Try.checked os 3 .any (Rows.sessPlaysSpec.pre6 enc Try.prog Try.f3 Rows.sessPlaysRow.domain false) (Rows.sessPlaysSpec.post enc Try.prog Try.f3 false true false false) := by
  refine returnsInHanded_of_change (C := Try.checked) own started (by kernel_rfl) Try.func3
    (ChangeSpec.witness6 (enc := enc) (C := Try.checked) false ⟨#[], #[.slice none 0 0, Law.V (0, 0, 0, 0), .int .i64 0, .int .u64 0], []⟩ 8 (by kernel_rfl) (by kernel_rfl) (by kernel_rfl) (by kernel_rfl)) ?_
  intro W base args ds gs before hval0 hW hcnd _
  have hval : ∀ (j : Nat) t v, Try.f3.params[j]? = some t → args[j]? = some v → Value.okWide Try.prog W .any base t v := hval0
  have hW' := hW
  obtain ⟨p, q, hA0, hV, rfl, hfz, hnd⟩ := hW
  have hA : DataW.TrodAll enc Try.prog W 0 (fun _ => true) true Try.f3.params.toList args.toList ds p := hA0
  rw [Try.params3] at hA hval
  obtain ⟨v0, vs0, d0, ds0, p0, q0, hargs, rfl, rfl, h0, r0⟩ := trodAll_cons hA
  obtain ⟨v1, vs1, d1, ds1, p1, q1, rfl, rfl, rfl, h1, r1⟩ := trodAll_cons r0
  obtain ⟨v2, vs2, d2, ds2, p2, q2, rfl, rfl, rfl, h2, r2⟩ := trodAll_cons r1
  obtain ⟨v3, vs3, d3, ds3, p3, q3, rfl, rfl, rfl, h3, r3⟩ := trodAll_cons r2
  obtain ⟨rfl, rfl, rfl⟩ := trodAll_nil r3
  obtain rfl : args = #[v0, v1, v2, v3] := by cases args; simp_all
  obtain ⟨A, c, l, rfl, hs, hl⟩ := Law.open_sess Try.underlying22 Try.underlying25 (by kernel_rfl) rfl rfl rfl rfl (by kernel_rfl) (by kernel_rfl) (by kernel_rfl) (by kernel_rfl) (by kernel_rfl) (by kernel_rfl) (by kernel_rfl) (by kernel_rfl) (hval 0 22 v0 rfl rfl) h0
  obtain ⟨s, rfl⟩ := open_one (hval 1 25 v1 rfl rfl) h1
  obtain ⟨a2, rfl, rfl, rfl, w2⟩ := open_int Try.underlying3 (hval 2 3 v2 rfl rfl) h2
  obtain ⟨a3, rfl, rfl, rfl, w3⟩ := open_int Try.underlying23 (hval 3 23 v3 rfl rfl) h3
  refine (walk l A c s a2 a3 W hs hl).mono fun e W' ⟨he, bel⟩ => ?_
  subst he
  exact ⟨_, rfl, Law.post_law laidOut (by kernel_rfl) (by kernel_rfl) Try.underlying4 rfl (fun ds h => by match ds, h with | [_, _, _, _], _ => rfl) hW' bel⟩

theorem proved : Rows.SessPlaysSaid :=
  OpenClaim.holds_of_wide 3 Try.f3 rfl rfl rfl rfl rfl rfl rfl ⟨rfl, rfl, rfl, rfl, rfl⟩ rfl rfl rfl rfl rfl (by kernel_rfl) Try.func3 (by kernel_rfl)
    (of_decide_eq_true (by kernel_rfl)) (by unfold Func.isWrapper; rw [if_neg (by decide +kernel)]; exact ⟨rfl, rfl⟩)
    (fun os started H enc _ => lifted os started H enc)
#print axioms proved
end Go.Proofs.Ytgnfgiiifohjhaa.sessPlays
