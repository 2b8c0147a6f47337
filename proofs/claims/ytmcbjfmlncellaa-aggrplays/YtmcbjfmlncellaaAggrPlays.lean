/-
  AggrPlays: whatever the sessions, the time and the place to stop, the statement's function returns true, and the arguments read as before. No condition.
-/
import Derived.Test.YtmcbjfmlncellaaAggr05
import Derived.Test.YtmcbjfmlncellaaAggr06
import Derived.Test.YtmcbjfmlncellaaSessO
import Derived.Lib.QuietBelow
import Derived.BigQuiet
namespace Go.Proofs.Ytmcbjfmlncellaa.aggrPlays
open Go.ChangeShapes Go.WideShapes Go.ChangeAt Go.RowKit
open Go.Law Go.Proofs.Ytmcbjfmlncellaa.Aggr

set_option maxRecDepth 100000 in
set_option maxHeartbeats 8000000 in
theorem walk (zs : List Sn) (A : Option Addr) (c : Nat) (now : Int) (stop : Nat) (hst : stop ≤ 255) (w : World) (hs : Seq w 0 w.heap.size A (flatS zs)) (hl : zs.length ≤ maxLen) :
    Calls Try.prog 3 #[.slice A zs.length c, .int .u64 now, .int .u8 (stop : Int)] w fun e w' => e = .returned (.bool true) ∧ Below w.heap.size w w' := by
  have HS := Lib.hid hs
  have HLM := Lib.hid hl
  unfold maxLen at hl
  clear hs
  have B0 := (Below.refl w.heap.size w).alloc (Nat.le_refl _) (.cells #[.int .u8 (stop : Int)] 5)
  have I0 := Is.new w 5 #[.int .u8 (stop : Int)] rfl
  by_cases hf : 200 < zs.length
  · have d0 : decide ((200 : Int) < (zs.length : Int)) = true := by simp; omega
    go_enter Try.func3, Try.ntmps3
    go_wp2_with fail
    generalize w.alloc (.cells #[.int .u8 (stop : Int)] 5) = w0 at *
    refine (awake _).mono ?_
    rintro e w1 ⟨rfl, b1⟩
    have B1 := Lib.hid (B0.trans (b1.mono B0.size))
    clear b1 B0 I0
    go_wp2_with fail
    refine (awake _).mono ?_
    rintro e w2 ⟨rfl, b2⟩
    have B2 := Lib.hid (B1.out.trans (b2.mono B1.out.size))
    clear b2
    go_wp2_with fail
    go_ret
    exact ⟨rfl, B2.out⟩
  · have d0 : decide ((200 : Int) < (zs.length : Int)) = false := by simp; omega
    have hl2 : zs.length ≤ 200 := by omega
    have hml := live_length now zs
    obtain ⟨lv, hlv⟩ : ∃ lv, live now zs = lv := ⟨_, rfl⟩
    obtain ⟨P0, P1, m, e0, e1, e2⟩ : ∃ P0 P1 m, (top lv).2.1 = P0 ∧ (top lv).2.2.1 = P1 ∧ lv.length = m := ⟨_, _, _, rfl, rfl, rfl⟩
    have HP : Hid (PV (live now zs) = .agg #[.int .i64 P0, .int .i64 P1, .int .i64 (m : Int)]) := by show _ = _; rw [hlv]; unfold PV; rw [e0, e1, e2]
    rw [hlv, e2] at hml
    have HE2 := Lib.hid e2
    have HLV := Lib.hid hlv
    clear e0 e1 e2 hlv
    go_enter Try.func3, Try.ntmps3
    go_wp2_with fail
    generalize w.alloc (.cells #[.int .u8 (stop : Int)] 5) = w0 at *
    refine (awake _).mono ?_
    rintro e w1 ⟨rfl, b1⟩
    have B1 := Lib.hid (B0.trans (b1.mono B0.size))
    have S1 := Lib.hid ((HS.out.below B1.out).more B1.out.size)
    have I1 := Lib.hid (I0.below b1 I0.lt)
    clear b1 HS B0 I0
    go_wp2_with fail
    refine (Sess.refPurge now zs A c w1 S1.out (by omega)).mono ?_
    rw [HLV.out]
    rintro e w2 ⟨A7, c7, rfl, r2, b2⟩
    rw [HE2.out]
    have hc7 : m ≤ c7 := by
      obtain ⟨_, _, e7, h7⟩ := own_shape r2
      injection e7 with _ _ e7
      have := HE2.out
      omega
    have B2 := B1.out.trans (b2.mono B1.out.size)
    have S2 := (S1.out.below b2).more b2.size
    have I2 := I1.out.below b2 I1.out.lt
    have T2 := (Seq.own r2).from_ (Nat.zero_le _)
    have b8 := Boxed.new w2 22 (.slice none 0 0)
    have B3 := Lib.hid (B2.alloc B2.size (.cells #[.slice none 0 0] 22))
    have S3 := Lib.hid ((S2.alloc (Nat.le_refl _) (.cells #[.slice none 0 0] 22)).more (Nat.le_of_lt b8.lt))
    have T3 := Lib.hid (T2.alloc (Nat.le_refl _) (.cells #[.slice none 0 0] 22))
    have I3 := Lib.hid (I2.alloc (.cells #[.slice none 0 0] 22))
    have H8 := Lib.hid b8
    have l5 := I2.lt
    have S2' := Lib.hid (S2.alloc (Nat.le_refl _) (.cells #[.slice none 0 0] 22))
    clear b2 B2 S2 I2 T2 r2 S1 I1 B1
    have hb8 := b8.lt
    clear b8
    go_wp2_with fail
    generalize w2.alloc (.cells #[.slice none 0 0] 22) = w3 at *
    generalize w2.heap.size = B at *
    refine (live_ zs A c now w3 S3.out (by omega)).mono ?_
    rintro e w4 ⟨A', c', Bs, Bn, rfl, cs, cn, hBn, s4, b4⟩
    have H4 : Hid (Holds w4 w4.heap.size B []) := ⟨.slice none 0 0, (b4.block B H8.out.lt).trans H8.out, World.ownsRow_nil _ _ _ _⟩
    have I4 := I3.out.below b4 I3.out.lt
    have B4 := Lib.hid (B3.out.trans (b4.mono B3.out.size))
    have CE := Lib.hid (each now zs stop B w.heap.size Bs Bn c' w3.heap.size A' w4 hst H4.out (I4.cell' rfl) (by omega) cs cn (by omega) hb8 s4 (by omega))
    have S4 := Lib.hid (S2'.out.below (b4.mono (Nat.le_of_lt hb8)))
    have T4 := Lib.hid (T3.out.below (b4.mono (Nat.le_of_lt hb8)))
    have sb4 := b4.size
    have HI4 := Lib.hid I4
    clear cs cn s4 b4 I4 H4 S3 T3 I3 H8 B3 S2'
    go_wp2_with fail
    refine CE.out.mono ?_
    rw [HLV.out]
    rintro e w5 ⟨⟨vv, rfl⟩, ⟨v8, h8, r8⟩, t5⟩
    clear CE
    have sb5 := t5.size
    have S5 := Lib.hid ((t5.seq S4.out (by omega) (fun k hk => .inr (by omega))).more (B' := w5.heap.size) (by omega))
    have T5 := Lib.hid ((t5.seq T4.out (by omega) (fun k hk => .inr (by omega))).more (B' := w5.heap.size) (by omega))
    have I5 := t5.is HI4.out (by omega)
    have B5 := Lib.hid (t5.below B4.out (fun k hk => by omega) (by have := B4.out.size; omega))
    obtain ⟨A8, c8, rfl, _⟩ := own_shape r8
    have G5 := Lib.hid ((Seq.own r8).from_ (Nat.zero_le _))
    have k8 := h8.cell
    have k5 : w5.cell? ⟨w.heap.size, 0, none⟩ = some (.int .u8 (stop : Int)) := I5.cell' rfl
    clear h8 r8 t5 I5 S4 T4 HI4 B4
    have HO1 : Hid (∀ d os, Calls Try.prog 13 #[.slice A zs.length c, .int .u64 now] (Go.Sort.grow (redrawn w5 d) os) fun e w' => e = .returned (.agg #[.int .i64 P0, .int .i64 P1, .int .i64 (m : Int)]) ∧ Below (Go.Sort.grow (redrawn w5 d) os).heap.size (Go.Sort.grow (redrawn w5 d) os) w') := fun d os =>
      ofE now zs A c zs.length _ _ rfl HP.out ((S5.out.below (below_regrown w5 d os)).more (below_regrown w5 d os).size) HLM.out
    have HO2 : Hid (∀ d os, Calls Try.prog 14 #[.slice A zs.length c, .int .u64 now] (Go.Sort.grow (redrawn w5 d) os) fun e w' => e = .returned (.agg #[.int .i64 P0, .int .i64 P1, .int .i64 (m : Int)]) ∧ Below (Go.Sort.grow (redrawn w5 d) os).heap.size (Go.Sort.grow (redrawn w5 d) os) w') := fun d os =>
      (refOf now zs A c _ ((S5.out.below (below_regrown w5 d os)).more (below_regrown w5 d os).size) (by omega)).mono fun _ _ ⟨h1, h2⟩ => ⟨by rw [h1, HP.out], h2⟩
    have hlen := HE2.out
    by_cases hm : m ≤ stop + 1
    · have et : lv.take (stop + 1) = lv := List.take_of_length_le (by omega)
      rw [et, hlen] at k8
      rw [et] at G5
      have HSa : Hid (∀ d os, Calls Try.prog 15 #[.slice A8 m c8, .slice A7 m c7] (Go.Sort.grow (redrawn w5 d) os) fun e w' => e = .returned (.bool true) ∧ Below (Go.Sort.grow (redrawn w5 d) os).heap.size (Go.Sort.grow (redrawn w5 d) os) w') := fun d os => by
        have h := Sess.refSame lv A8 A7 c8 c7 _ ((G5.out.below (below_regrown w5 d os)).more (below_regrown w5 d os).size) ((T5.out.below (below_regrown w5 d os)).more (below_regrown w5 d os).size) (by omega)
        rwa [hlen] at h
      have d4 : decide (((stop : Int) + 1) < (m : Int)) = false := by simp; omega
      have z8 := cell_regrown k8
      have z5 := cell_regrown k5
      clear et hlen G5 T5 S5 HP
      go_wp2_with fail
      clear k8 k5
      refine wp_region_quiet_below (by kernel_rfl) (by kernel_rfl) ?_
      repeat (go_big_quiet_step (first
        | (go_at_call 13; with_reducible exact Calls.regrown_of (HO1.out _ _))
        | (go_at_call 14; with_reducible exact Calls.regrown_of (HO2.out _ _))
        | (go_at_call 15; with_reducible exact Calls.regrown_of (HSa.out _ _))))
      refine wpQuiet_nil ?_
      intro _ hw'
      obtain ⟨⟨nq, osq⟩, hw''⟩ := hw'
      subst hw''
      have B6 := Lib.hid (B5.out.trans ((below_regrown w5 nq osq).mono B5.out.size))
      clear z8 z5
      generalize Go.Sort.grow (redrawn w5 nq) osq = w6 at *
      go_wp2_with fail
      go_ret
      exact ⟨rfl, B6.out⟩
    · have et : (lv.take (stop + 1)).length = stop + 1 := by simp; omega
      rw [et] at k8
      have HSa : Hid (∀ d os, Calls Try.prog 15 #[.slice A8 (stop + 1) c8, .slice A7 (stop + 1) c7] (Go.Sort.grow (redrawn w5 d) os) fun e w' => e = .returned (.bool true) ∧ Below (Go.Sort.grow (redrawn w5 d) os).heap.size (Go.Sort.grow (redrawn w5 d) os) w') := fun d os => by
        have hY := ((T5.out.below (below_regrown w5 d os)).more (below_regrown w5 d os).size).part (A' := A7) (i := 0) (n := (stop + 1) * 4) (fun b off h _ _ => by simpa using h)
        rw [List.drop_zero, ← flatS_take] at hY
        have h := Sess.refSame (lv.take (stop + 1)) A8 A7 c8 c7 _ ((G5.out.below (below_regrown w5 d os)).more (below_regrown w5 d os).size) hY (by omega)
        rwa [et] at h
      have d4 : decide (((stop : Int) + 1) < (m : Int)) = true := by simp; omega
      have d5 : (stop + 1 : Nat) ≤ c7 := by omega
      have z8 := cell_regrown k8
      have z5 := cell_regrown k5
      clear et hlen G5 T5 S5 HP
      go_wp2_with fail
      clear k8 k5
      refine wp_region_quiet_below (by kernel_rfl) (by kernel_rfl) ?_
      repeat (go_big_quiet_step (first
        | (go_at_call 13; with_reducible exact Calls.regrown_of (HO1.out _ _))
        | (go_at_call 14; with_reducible exact Calls.regrown_of (HO2.out _ _))
        | (go_at_call 15; with_reducible exact Calls.regrown_of (HSa.out _ _))))
      refine wpQuiet_nil ?_
      intro _ hw'
      obtain ⟨⟨nq, osq⟩, hw''⟩ := hw'
      subst hw''
      have B6 := Lib.hid (B5.out.trans ((below_regrown w5 nq osq).mono B5.out.size))
      clear z8 z5
      generalize Go.Sort.grow (redrawn w5 nq) osq = w6 at *
      go_wp2_with fail
      go_ret
      exact ⟨rfl, B6.out⟩

theorem walk0 (zs : List Sn) (A : Option Addr) (c : Nat) (now stop : Int) (hn : (Lit.int .u8 stop).wf = true) (w : World) (hs : Seq w 0 w.heap.size A (flatS zs)) (hl : zs.length ≤ maxLen) :
    Calls Try.prog 3 #[.slice A zs.length c, .int .u64 now, .int .u8 stop] w fun e w' => e = .returned (.bool true) ∧ Below w.heap.size w w' := by
  have h1 := bounds_u8 hn
  obtain ⟨k, rfl⟩ := Int.eq_ofNat_of_zero_le h1.1
  exact walk zs A c now k (by omega) w hs hl

set_option maxRecDepth 100000 in
theorem lifted (os : Os) (started : os.Started) (H : Type) (enc : TypeId × Value → H) :
    ReturnsInHanded {} Try.checked os 3 .any (Rows.aggrPlaysSpec.pre6 enc Try.prog Try.f3 Rows.aggrPlaysRow.domain false) (Rows.aggrPlaysSpec.post enc Try.prog Try.f3 false true false false) := by
  refine returnsInHanded_of_change (C := Try.checked) own started (by kernel_rfl) Try.func3
    (ChangeSpec.witness6 (enc := enc) (C := Try.checked) false ⟨#[], #[.slice none 0 0, .int .u64 0, .int .u8 0], []⟩ 8 (by kernel_rfl) (by kernel_rfl) (by kernel_rfl) (by kernel_rfl)) ?_
  intro W base args ds gs before hval0 hW hcnd _
  have hval : ∀ (j : Nat) t v, Try.f3.params[j]? = some t → args[j]? = some v → Value.okWide Try.prog W .any base t v := hval0
  have hW' := hW
  obtain ⟨p, q, hA0, hV, rfl, hfz, hnd⟩ := hW
  have hA : DataW.TrodAll enc Try.prog W 0 (fun _ => true) true Try.f3.params.toList args.toList ds p := hA0
  rw [Try.params3] at hA hval
  obtain ⟨v0, vs0, d0, ds0, p0, q0, hargs, rfl, rfl, h0, r0⟩ := trodAll_cons hA
  obtain ⟨v1, vs1, d1, ds1, p1, q1, rfl, rfl, rfl, h1, r1⟩ := trodAll_cons r0
  obtain ⟨v2, vs2, d2, ds2, p2, q2, rfl, rfl, rfl, h2, r2⟩ := trodAll_cons r1
  obtain ⟨rfl, rfl, rfl⟩ := trodAll_nil r2
  obtain rfl : args = #[v0, v1, v2] := by cases args; simp_all
  obtain ⟨A, c, l, rfl, hs, hl⟩ := Law.open_sess Try.underlying22 Try.underlying30 (by kernel_rfl) rfl rfl rfl rfl (by kernel_rfl) (by kernel_rfl) (by kernel_rfl) (by kernel_rfl) (by kernel_rfl) (by kernel_rfl) (by kernel_rfl) (by kernel_rfl) (hval 0 22 v0 rfl rfl) h0
  obtain ⟨a1, rfl, rfl, rfl, w1⟩ := open_int Try.underlying23 (hval 1 23 v1 rfl rfl) h1
  obtain ⟨a2, rfl, rfl, rfl, w2⟩ := open_int Try.underlying5 (hval 2 5 v2 rfl rfl) h2
  refine (walk0 l A c a1 a2 w2 W hs hl).mono fun e W' ⟨he, bel⟩ => ?_
  subst he
  exact ⟨_, rfl, Law.post_law laidOut (by kernel_rfl) (by kernel_rfl) Try.underlying4 rfl (fun ds h => by match ds, h with | [_, _, _], _ => rfl) hW' bel⟩

theorem proved : Rows.AggrPlaysSaid :=
  OpenClaim.holds_of_wide 3 Try.f3 rfl rfl rfl rfl rfl rfl rfl ⟨rfl, rfl, rfl, rfl, rfl⟩ rfl rfl rfl rfl rfl (by kernel_rfl) Try.func3 (by kernel_rfl)
    (of_decide_eq_true (by kernel_rfl)) (by unfold Func.isWrapper; rw [if_neg (by decide +kernel)]; exact ⟨rfl, rfl⟩)
    (fun os started H enc _ => lifted os started H enc)
#print axioms proved
end Go.Proofs.Ytmcbjfmlncellaa.aggrPlays
