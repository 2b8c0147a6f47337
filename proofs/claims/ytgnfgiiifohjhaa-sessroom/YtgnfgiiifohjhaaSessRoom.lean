/-
  SessRoom: whatever the sessions, the session and the number, the statement's function returns true, and the arguments read as before. No condition.
-/
import Derived.Test.YtgnfgiiifohjhaaSessO
namespace Go.Proofs.Ytgnfgiiifohjhaa.sessRoom
open Go.ChangeShapes Go.WideShapes Go.ChangeAt Go.RowKit
open Go.Law Go.Proofs.Ytgnfgiiifohjhaa.Sess
theorem ret_true {a : Bool} (h : a = true) : Ending.returned (.bool a) = .returned (.bool true) := by rw [h]

set_option maxRecDepth 100000 in
set_option maxHeartbeats 6400000 in
theorem walk (raw : List Sn) (A : Option Addr) (c : Nat) (s : Sn) (most : Int) (w : World) (hs : Seq w 0 w.heap.size A (flatS raw)) (hl : raw.length ≤ maxLen) :
    Calls Try.prog 7 #[.slice A raw.length c, V s, .int .i64 most] w fun e w' => e = .returned (.bool true) ∧ Below w.heap.size w w' := by
  have HS := Lib.hid hs
  unfold maxLen at hl
  obtain ⟨x0, x1, x2, x3⟩ := s
  unfold V
  clear hs
  have B0 := (Below.refl w.heap.size w).alloc (Nat.le_refl _) (.cells #[.int .i64 x0, .int .i64 x1, .int .i64 x2, .int .u64 x3] 25)
  have I0 : Is (w.alloc (.cells #[.int .i64 x0, .int .i64 x1, .int .i64 x2, .int .u64 x3] 25)) w.heap.size 25 #[.int .i64 x0, .int .i64 x1, .int .i64 x2, .int .u64 x3] := Is.new _ _ _ rfl
  by_cases hf : 200 < raw.length
  · have d0 : decide ((200 : Int) < (raw.length : Int)) = true := by simp; omega
    go_enter Try.func7, Try.ntmps7
    go_wp2_with fail
    generalize w.alloc (.cells #[.int .i64 x0, .int .i64 x1, .int .i64 x2, .int .u64 x3] 25) = w0 at *
    refine (awake _).mono ?_
    rintro e w1 ⟨rfl, b1⟩
    have B1 := Lib.hid (B0.trans (b1.mono B0.size))
    clear b1 B0 I0
    go_wp2_with fail
    refine (awake _).mono ?_
    rintro e w2 ⟨rfl, b2⟩
    have B2 := Lib.hid (B1.out.trans (b2.mono B1.out.size))
    clear b2
    go_wp2_with fail
    go_ret
    exact ⟨rfl, B2.out⟩
  · have d0 : decide ((200 : Int) < (raw.length : Int)) = false := by simp; omega
    go_enter Try.func7, Try.ntmps7
    go_wp2_with fail
    generalize w.alloc (.cells #[.int .i64 x0, .int .i64 x1, .int .i64 x2, .int .u64 x3] 25) = w0 at *
    refine (awake _).mono ?_
    rintro e w1 ⟨rfl, b1⟩
    have B1 := Lib.hid (B0.trans (b1.mono B0.size))
    have I1 := Lib.hid (I0.below b1 I0.lt)
    have sb1 := B1.out.size
    have l1 := I1.out.lt
    clear b1 B0 I0
    go_wp2_with fail
    refine (refSorted raw A c w1 ((HS.out.below B1.out).more B1.out.size) (by omega)).mono ?_
    rintro e w2 ⟨us, hu, hul, A2, cc2, rfl, r2, b2⟩
    have HU := Lib.hid hu
    have S2 := Lib.hid ((Seq.own r2).from_ (Nat.zero_le _))
    have sb2 := b2.size
    have B2 := Lib.hid (B1.out.trans (b2.mono sb1))
    have I2 := Lib.hid (I1.out.below b2 l1)
    have l2 := I2.out.lt
    have hul2 : us.length ≤ 200 := by omega
    have c0 : w2.cell? ⟨w.heap.size, 0, none⟩ = some (.int .i64 x0) := I2.out.cell' rfl
    have c1 : w2.cell? ⟨w.heap.size, 1, none⟩ = some (.int .i64 x1) := I2.out.cell' rfl
    have c2 : w2.cell? ⟨w.heap.size, 2, none⟩ = some (.int .i64 x2) := I2.out.cell' rfl
    have c3 : w2.cell? ⟨w.heap.size, 3, none⟩ = some (.int .u64 x3) := I2.out.cell' rfl
    clear hu r2 b2 B1 I1 HS hul
    cases hh : hasS x0 us with
    | true =>
      have HH := Lib.hid hh
      have hpl : (put (x0, x1, x2, x3) us).length = us.length := by rw [put_length (x0, x1, x2, x3) HU.out]; simp only [hh, if_true]
      have HPL := Lib.hid hpl
      clear hh hpl
      go_wp2_with fail
      refine (setOver (x0, x1, x2, x3) most us A2 cc2 w2 S2.out (by omega) HU.out HH.out).mono ?_
      rintro e w3 ⟨A3, cc3, rfl, r3, b3⟩
      rw [HPL.out]
      have c03 : w3.cell? ⟨w.heap.size, 0, none⟩ = some (.int .i64 x0) := (b3.cell (p := ⟨w.heap.size, 0, none⟩) l2).trans c0
      have S3 := Lib.hid ((S2.out.below b3).more b3.size)
      have B3 := Lib.hid (B2.out.trans (b3.mono B2.out.size))
      have l3 := Nat.lt_of_lt_of_le l2 b3.size
      clear r3 b3
      go_wp2_with fail
      refine (refHas x0 us A2 cc2 _ S3.out (by omega)).mono ?_
      rintro e w4 ⟨rfl, rfl⟩
      rw [HH.out]
      go_wp2_with fail
      go_ret
      exact ⟨rfl, B3.out⟩
    | false =>
      have HH := Lib.hid hh
      have hpl : (put (x0, x1, x2, x3) us).length = us.length + 1 := by rw [put_length (x0, x1, x2, x3) HU.out]; simp only [hh]; rfl
      have HPL := Lib.hid hpl
      clear hh hpl
      by_cases hm : most ≤ (us.length : Int)
      · have d1 : decide ((us.length : Int) < most) = false := by simp; omega
        go_wp2_with fail
        refine (setFull (x0, x1, x2, x3) most us A2 cc2 w2 S2.out (by omega) HH.out hm).mono ?_
        rintro e w3 ⟨A3, cc3, rfl, r3, b3⟩
        have c03 : w3.cell? ⟨w.heap.size, 0, none⟩ = some (.int .i64 x0) := (b3.cell (p := ⟨w.heap.size, 0, none⟩) l2).trans c0
        have S3 := Lib.hid ((S2.out.below b3).more b3.size)
        have B3 := Lib.hid (B2.out.trans (b3.mono B2.out.size))
        have l3 := Nat.lt_of_lt_of_le l2 b3.size
        clear r3 b3
        go_wp2_with fail
        refine (refHas x0 us A2 cc2 _ S3.out (by omega)).mono ?_
        rintro e w4 ⟨rfl, rfl⟩
        rw [HH.out]
        go_wp2_with fail
        go_ret
        exact ⟨rfl, B3.out⟩
      · have d1 : decide ((us.length : Int) < most) = true := by simp; omega
        have d2 : decide (most < (us.length : Int) + 1) = false := by simp; omega
        have hm' : (us.length : Int) < most := by omega
        go_wp2_with fail
        refine (setNew (x0, x1, x2, x3) most us A2 cc2 w2 S2.out (by omega) HH.out hm').mono ?_
        rintro e w3 ⟨A3, cc3, rfl, r3, b3⟩
        rw [HPL.out]
        have c03 : w3.cell? ⟨w.heap.size, 0, none⟩ = some (.int .i64 x0) := (b3.cell (p := ⟨w.heap.size, 0, none⟩) l2).trans c0
        have S3 := Lib.hid ((S2.out.below b3).more b3.size)
        have B3 := Lib.hid (B2.out.trans (b3.mono B2.out.size))
        have l3 := Nat.lt_of_lt_of_le l2 b3.size
        clear r3 b3
        go_wp2_with fail
        refine (refHas x0 us A2 cc2 _ S3.out (by omega)).mono ?_
        rintro e w4 ⟨rfl, rfl⟩
        rw [HH.out]
        go_wp2_with fail
        go_ret
        exact ⟨rfl, B3.out⟩

set_option maxRecDepth 100000 in
theorem lifted (os : Os) (started : os.Started) (H : Type) (enc : TypeId × Value → H) :
    ReturnsInHanded {} Try.checked os 7 .any (Rows.sessRoomSpec.pre6 enc Try.prog Try.f7 Rows.sessRoomRow.domain false) (Rows.sessRoomSpec.post enc Try.prog Try.f7 false true false false) := by
  refine returnsInHanded_of_change (C := Try.checked) own started (by kernel_rfl) Try.func7
    (ChangeSpec.witness6 (enc := enc) (C := Try.checked) false ⟨#[], #[.slice none 0 0, Law.V (0, 0, 0, 0), .int .i64 0], []⟩ 8 (by kernel_rfl) (by kernel_rfl) (by kernel_rfl) (by kernel_rfl)) ?_
  intro W base args ds gs before hval0 hW hcnd _
  have hval : ∀ (j : Nat) t v, Try.f7.params[j]? = some t → args[j]? = some v → Value.okWide Try.prog W .any base t v := hval0
  have hW' := hW
  obtain ⟨p, q, hA0, hV, rfl, hfz, hnd⟩ := hW
  have hA : DataW.TrodAll enc Try.prog W 0 (fun _ => true) true Try.f7.params.toList args.toList ds p := hA0
  rw [Try.params7] at hA hval
  obtain ⟨v0, vs0, d0, ds0, p0, q0, hargs, rfl, rfl, h0, r0⟩ := trodAll_cons hA
  obtain ⟨v1, vs1, d1, ds1, p1, q1, rfl, rfl, rfl, h1, r1⟩ := trodAll_cons r0
  obtain ⟨v2, vs2, d2, ds2, p2, q2, rfl, rfl, rfl, h2, r2⟩ := trodAll_cons r1
  obtain ⟨rfl, rfl, rfl⟩ := trodAll_nil r2
  obtain rfl : args = #[v0, v1, v2] := by cases args; simp_all
  obtain ⟨A, c, l, rfl, hs, hl⟩ := Law.open_sess Try.underlying22 Try.underlying25 (by kernel_rfl) rfl rfl rfl rfl (by kernel_rfl) (by kernel_rfl) (by kernel_rfl) (by kernel_rfl) (by kernel_rfl) (by kernel_rfl) (by kernel_rfl) (by kernel_rfl) (hval 0 22 v0 rfl rfl) h0
  obtain ⟨s, rfl⟩ := open_one (hval 1 25 v1 rfl rfl) h1
  obtain ⟨a2, rfl, rfl, rfl, w2⟩ := open_int Try.underlying3 (hval 2 3 v2 rfl rfl) h2
  refine (walk l A c s a2 W hs hl).mono fun e W' ⟨he, bel⟩ => ?_
  subst he
  exact ⟨_, rfl, Law.post_law laidOut (by kernel_rfl) (by kernel_rfl) Try.underlying4 rfl (fun ds h => by match ds, h with | [_, _, _], _ => rfl) hW' bel⟩

theorem proved : Rows.SessRoomSaid :=
  OpenClaim.holds_of_wide 7 Try.f7 rfl rfl rfl rfl rfl rfl rfl ⟨rfl, rfl, rfl, rfl, rfl⟩ rfl rfl rfl rfl rfl (by kernel_rfl) Try.func7 (by kernel_rfl)
    (of_decide_eq_true (by kernel_rfl)) (by unfold Func.isWrapper; rw [if_neg (by decide +kernel)]; exact ⟨rfl, rfl⟩)
    (fun os started H enc _ => lifted os started H enc)
#print axioms proved
end Go.Proofs.Ytgnfgiiifohjhaa.sessRoom
