/-
  AggrNext: whatever the sessions and the two times, the statement's function returns true, and the arguments read as before. No condition.
-/
import Derived.Test.YtmcbjfmlncellaaAggr04
import Derived.Test.YtmcbjfmlncellaaSessO
namespace Go.Proofs.Ytmcbjfmlncellaa.aggrNext
open Go.ChangeShapes Go.WideShapes Go.ChangeAt Go.RowKit
open Go.Law Go.Proofs.Ytmcbjfmlncellaa.Aggr

set_option maxRecDepth 100000 in
set_option maxHeartbeats 8000000 in
theorem walk (zs : List Sn) (A : Option Addr) (c : Nat) (now then_ : Int) (w : World) (hs : Seq w 0 w.heap.size A (flatS zs)) (hl : zs.length ≤ maxLen) :
    Calls Try.prog 5 #[.slice A zs.length c, .int .u64 now, .int .u64 then_] w fun e w' => e = .returned (.bool true) ∧ Below w.heap.size w w' := by
  have HS := Lib.hid hs
  have HLM := Lib.hid hl
  unfold maxLen at hl
  clear hs
  by_cases hf : 200 < zs.length
  · have d0 : decide ((200 : Int) < (zs.length : Int)) = true := by simp; omega
    go_enter Try.func5, Try.ntmps5
    go_wp2_with fail
    refine (awake _).mono ?_
    rintro e w1 ⟨rfl, b1⟩
    have B1 := Lib.hid b1
    clear b1
    go_wp2_with fail
    refine (awake _).mono ?_
    rintro e w2 ⟨rfl, b2⟩
    have B2 := Lib.hid (B1.out.trans (b2.mono B1.out.size))
    clear b2
    go_wp2_with fail
    go_ret
    exact ⟨rfl, B2.out⟩
  · have d0 : decide ((200 : Int) < (zs.length : Int)) = false := by simp; omega
    go_enter Try.func5, Try.ntmps5
    go_wp2_with fail
    refine (awake _).mono ?_
    rintro e w1 ⟨rfl, b1⟩
    have B1 := Lib.hid b1
    have S1 := Lib.hid ((HS.out.below b1).more b1.size)
    clear b1 HS
    go_wp2_with fail
    refine (next_ now zs A c w1 S1.out HLM.out).mono ?_
    rintro e w2 ⟨rfl, b2⟩
    have B2 := Lib.hid (B1.out.trans (b2.mono B1.out.size))
    have S2 := Lib.hid ((S1.out.below b2).more b2.size)
    clear b2 B1 S1
    have HT : Hid (now ≤ then_ → (lvB (live now zs) = false ∨ then_ < lv0 (live now zs)) → live then_ zs = live now zs) := fun h1 h2 => by
      refine live_till zs h1 fun u hu => ?_
      unfold lvB lv0 at h2
      rw [hu] at h2
      simpa using h2
    obtain ⟨u, hu⟩ : ∃ u, u = lv0 (live now zs) := ⟨_, rfl⟩
    obtain ⟨b, hb⟩ : ∃ b, b = lvB (live now zs) := ⟨_, rfl⟩
    rw [← hu, ← hb] at HT
    rw [← hu, ← hb]
    have HU := Lib.hid hu
    have HV := Lib.hid hb
    clear hu hb
    go_wp2_with fail
    go_loop [9, 10, 11] (fun lu lb i => ∃ j : Nat, j ≤ zs.length ∧ i = .int .i64 j ∧ lu = .int .u64 (lv0 (live now (zs.take j))) ∧ lb = .bool (lvB (live now (zs.take j)))) (fun _ _ i => zs.length - (intOf i).toNat)
    case atStart => exact ⟨0, Nat.zero_le _, rfl, rfl, rfl⟩
    case round =>
      obtain ⟨j, hj, rfl, rfl, rfl⟩ := hrel
      by_cases hlt : j < zs.length
      · obtain ⟨p, off, rfl, _, hp, q0, q1, q2, q3⟩ := S2.out.ses hlt
        have HT2 : Hid (live now (zs.take (j + 1)) = if now < zs[j].2.2.2 then live now (zs.take j) ++ [zs[j]] else live now (zs.take j)) := by show _ = _; rw [List.take_succ_eq_append_getElem hlt, live_snoc]
        generalize live now (zs.take j) = os at *
        generalize zs[j] = q at *
        obtain ⟨x0, x1, x2, x3⟩ := q
        simp only at q0 q1 q2 q3 HT2
        have HY := Lib.hid (lv_yes (l := os) (x := (x0, x1, x2, x3)))
        have HN := Lib.hid (lv_no (l := os) (x := (x0, x1, x2, x3)))
        generalize hv : lv0 os = v at *
        generalize hb' : lvB os = b' at *
        have HV2 := Lib.hid hv
        have HB2 := Lib.hid hb'
        clear hv hb'
        by_cases hk : now < x3
        · have d1 : decide (now < x3) = true := by simpa using hk
          have HX : Hid (live now (zs.take (j + 1)) = os ++ [(x0, x1, x2, x3)]) := by show _ = _; rw [HT2.out, if_pos hk]
          cases b' with
          | false =>
            have hy := HY.out (.inl rfl)
            have HY2 := Lib.hid hy
            clear hy HY HN
            go_wp2_with fail
            go_round
            case rel => exact ⟨j + 1, by omega, by go_num, by rw [HX.out, HY2.out.1], by rw [HX.out, HY2.out.2]⟩
            case measure => simp [intOf]; omega
          | true =>
            by_cases hx : x3 < v
            · have d2 : decide (x3 < v) = true := by simpa using hx
              have hy := HY.out (.inr hx)
              have HY2 := Lib.hid hy
              clear hy HY HN
              go_wp2_with fail
              go_round
              case rel => exact ⟨j + 1, by omega, by go_num, by rw [HX.out, HY2.out.1], by rw [HX.out, HY2.out.2]⟩
              case measure => simp [intOf]; omega
            · have d2 : decide (x3 < v) = false := by simpa using hx
              have hy := HN.out rfl hx
              have HY2 := Lib.hid hy
              clear hy HY HN
              go_wp2_with fail
              go_round
              case rel => exact ⟨j + 1, by omega, by go_num, by rw [HX.out, HY2.out.1], by rw [HX.out, HY2.out.2]⟩
              case measure => simp [intOf]; omega
        · have d1 : decide (now < x3) = false := by simpa using hk
          have HX : Hid (live now (zs.take (j + 1)) = os) := by show _ = _; rw [HT2.out, if_neg hk]
          clear HY HN
          go_wp2_with fail
          go_round
          case rel => exact ⟨j + 1, by omega, by go_num, by rw [HX.out, HV2.out], by rw [HX.out, HB2.out]⟩
          case measure => simp [intOf]; omega
      · rw [List.take_of_length_le (by omega), ← HU.out, ← HV.out]
        by_cases h1 : then_ < now
        · have d1 : decide (then_ < now) = true := by simpa using h1
          go_wp2_with fail
          go_ret
          exact ⟨rfl, B2.out⟩
        · have d1 : decide (then_ < now) = false := by simpa using h1
          have h1' : now ≤ then_ := by omega
          have fin : ∀ hh : b = false ∨ then_ < u, Hid (∃ v0 v1 v2, PV (live then_ zs) = .agg #[.int .i64 v0, .int .i64 v1, .int .i64 v2] ∧ PV (live now zs) = .agg #[.int .i64 v0, .int .i64 v1, .int .i64 v2]) := fun hh => by
            rw [HT.out h1' hh]
            exact ⟨_, _, _, rfl, rfl⟩
          cases b with
          | false =>
            obtain ⟨v0, v1, v2, e1, e2⟩ := (fin (.inl rfl)).out
            have E1 := Lib.hid e1
            have E2 := Lib.hid e2
            clear e1 e2 fin
            go_wp2_with fail
            refine (ofE then_ zs A c zs.length _ _ rfl E1.out S2.out HLM.out).mono ?_
            rintro e w3 ⟨rfl, b3⟩
            have B3 := Lib.hid (B2.out.trans (b3.mono B2.out.size))
            have S3 := Lib.hid ((S2.out.below b3).more b3.size)
            clear b3
            go_wp2_with fail
            refine (ofE now zs A c zs.length _ _ rfl E2.out S3.out HLM.out).mono ?_
            rintro e w4 ⟨rfl, b4⟩
            have B4 := Lib.hid (B3.out.trans (b4.mono B3.out.size))
            clear b4
            go_wp2_with fail
            go_ret
            exact ⟨rfl, B4.out⟩
          | true =>
            by_cases h2 : then_ < u
            · have d2 : decide (u ≤ then_) = false := by simp; omega
              obtain ⟨v0, v1, v2, e1, e2⟩ := (fin (.inr h2)).out
              have E1 := Lib.hid e1
              have E2 := Lib.hid e2
              clear e1 e2 fin
              go_wp2_with fail
              refine (ofE then_ zs A c zs.length _ _ rfl E1.out S2.out HLM.out).mono ?_
              rintro e w3 ⟨rfl, b3⟩
              have B3 := Lib.hid (B2.out.trans (b3.mono B2.out.size))
              have S3 := Lib.hid ((S2.out.below b3).more b3.size)
              clear b3
              go_wp2_with fail
              refine (ofE now zs A c zs.length _ _ rfl E2.out S3.out HLM.out).mono ?_
              rintro e w4 ⟨rfl, b4⟩
              have B4 := Lib.hid (B3.out.trans (b4.mono B3.out.size))
              clear b4
              go_wp2_with fail
              go_ret
              exact ⟨rfl, B4.out⟩
            · have d2 : decide (u ≤ then_) = true := by simp; omega
              clear fin
              go_wp2_with fail
              go_ret
              exact ⟨rfl, B2.out⟩

set_option maxRecDepth 100000 in
theorem lifted (os : Os) (started : os.Started) (H : Type) (enc : TypeId × Value → H) :
    ReturnsInHanded {} Try.checked os 5 .any (Rows.aggrNextSpec.pre6 enc Try.prog Try.f5 Rows.aggrNextRow.domain false) (Rows.aggrNextSpec.post enc Try.prog Try.f5 false true false false) := by
  refine returnsInHanded_of_change (C := Try.checked) own started (by kernel_rfl) Try.func5
    (ChangeSpec.witness6 (enc := enc) (C := Try.checked) false ⟨#[], #[.slice none 0 0, .int .u64 0, .int .u64 0], []⟩ 8 (by kernel_rfl) (by kernel_rfl) (by kernel_rfl) (by kernel_rfl)) ?_
  intro W base args ds gs before hval0 hW hcnd _
  have hval : ∀ (j : Nat) t v, Try.f5.params[j]? = some t → args[j]? = some v → Value.okWide Try.prog W .any base t v := hval0
  have hW' := hW
  obtain ⟨p, q, hA0, hV, rfl, hfz, hnd⟩ := hW
  have hA : DataW.TrodAll enc Try.prog W 0 (fun _ => true) true Try.f5.params.toList args.toList ds p := hA0
  rw [Try.params5] at hA hval
  obtain ⟨v0, vs0, d0, ds0, p0, q0, hargs, rfl, rfl, h0, r0⟩ := trodAll_cons hA
  obtain ⟨v1, vs1, d1, ds1, p1, q1, rfl, rfl, rfl, h1, r1⟩ := trodAll_cons r0
  obtain ⟨v2, vs2, d2, ds2, p2, q2, rfl, rfl, rfl, h2, r2⟩ := trodAll_cons r1
  obtain ⟨rfl, rfl, rfl⟩ := trodAll_nil r2
  obtain rfl : args = #[v0, v1, v2] := by cases args; simp_all
  obtain ⟨A, c, l, rfl, hs, hl⟩ := Law.open_sess Try.underlying22 Try.underlying30 (by kernel_rfl) rfl rfl rfl rfl (by kernel_rfl) (by kernel_rfl) (by kernel_rfl) (by kernel_rfl) (by kernel_rfl) (by kernel_rfl) (by kernel_rfl) (by kernel_rfl) (hval 0 22 v0 rfl rfl) h0
  obtain ⟨a1, rfl, rfl, rfl, w1⟩ := open_int Try.underlying23 (hval 1 23 v1 rfl rfl) h1
  obtain ⟨a2, rfl, rfl, rfl, w2⟩ := open_int Try.underlying23 (hval 2 23 v2 rfl rfl) h2
  refine (walk l A c a1 a2 W hs hl).mono fun e W' ⟨he, bel⟩ => ?_
  subst he
  exact ⟨_, rfl, Law.post_law laidOut (by kernel_rfl) (by kernel_rfl) Try.underlying4 rfl (fun ds h => by match ds, h with | [_, _, _], _ => rfl) hW' bel⟩

theorem proved : Rows.AggrNextSaid :=
  OpenClaim.holds_of_wide 5 Try.f5 rfl rfl rfl rfl rfl rfl rfl ⟨rfl, rfl, rfl, rfl, rfl⟩ rfl rfl rfl rfl rfl (by kernel_rfl) Try.func5 (by kernel_rfl)
    (of_decide_eq_true (by kernel_rfl)) (by unfold Func.isWrapper; rw [if_neg (by decide +kernel)]; exact ⟨rfl, rfl⟩)
    (fun os started H enc _ => lifted os started H enc)
#print axioms proved
end Go.Proofs.Ytmcbjfmlncellaa.aggrNext
