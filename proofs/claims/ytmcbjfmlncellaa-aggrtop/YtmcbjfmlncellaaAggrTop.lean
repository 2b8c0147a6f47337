/-
  AggrTop: whatever the sessions and the time, the statement's function returns true, and the arguments read as before. No condition.
-/
import Derived.Test.YtmcbjfmlncellaaAggr04
import Derived.Test.YtmcbjfmlncellaaSessO
import Derived.Deep.QuietTactic
import Derived.BigQuiet
namespace Go.Law
/-- somebody has this status and this prio -/
def metS (p0 p1 : Int) (l : List Sn) : Bool := l.any fun q => q.2.2.1 == p1 && q.2.1 == p0
theorem metS_snoc (p0 p1 : Int) (l : List Sn) (x : Sn) : metS p0 p1 (l ++ [x]) = (metS p0 p1 l || (x.2.2.1 == p1 && x.2.1 == p0)) := by simp [metS]
theorem metS_top (l : List Sn) : metS (top l).2.1 (top l).2.2.1 l = decide ((0 : Int) < (l.length : Int)) := by
  cases l with
  | nil => rfl
  | cons a r =>
    have h := top_mem (l := a :: r) (by simp)
    rw [show decide ((0 : Int) < ((a :: r).length : Int)) = true by simp]
    exact List.any_eq_true.2 ⟨_, h, by simp⟩
end Go.Law
namespace Go.Proofs.Ytmcbjfmlncellaa.aggrTop
open Go.ChangeShapes Go.WideShapes Go.ChangeAt Go.RowKit
open Go.Law Go.Proofs.Ytmcbjfmlncellaa.Aggr

set_option maxRecDepth 100000 in
set_option maxHeartbeats 8000000 in
theorem walk (zs : List Sn) (A : Option Addr) (c : Nat) (now : Int) (w : World) (hs : Seq w 0 w.heap.size A (flatS zs)) (hl : zs.length ≤ maxLen) :
    Calls Try.prog 8 #[.slice A zs.length c, .int .u64 now] w fun e w' => e = .returned (.bool true) ∧ Below w.heap.size w w' := by
  have HS := Lib.hid hs
  have HLM := Lib.hid hl
  unfold maxLen at hl
  clear hs
  by_cases hf : 200 < zs.length
  · have d0 : decide ((200 : Int) < (zs.length : Int)) = true := by simp; omega
    go_enter Try.func8, Try.ntmps8
    go_wp2_with fail
    refine (awake _).mono ?_
    rintro e w1 ⟨rfl, b1⟩
    have B1 := Lib.hid b1
    clear b1
    go_wp2_with fail
    refine (awake _).mono ?_
    rintro e w2 ⟨rfl, b2⟩
    have B2 := Lib.hid (B1.out.trans (b2.mono B1.out.size))
    clear b2
    go_wp2_with fail
    go_ret
    exact ⟨rfl, B2.out⟩
  · have d0 : decide ((200 : Int) < (zs.length : Int)) = false := by simp; omega
    have hl2 : zs.length ≤ 200 := by omega
    have HM := Lib.hid (metS_top (live now zs))
    have HQ : Hid (∀ q ∈ live now zs, q.2.2.1 ≤ (top (live now zs)).2.2.1) := fun q hq => better_no (top_most hq)
    have hml := live_length now zs
    obtain ⟨P0, P1, m, e0, e1, e2⟩ : ∃ P0 P1 m, (top (live now zs)).2.1 = P0 ∧ (top (live now zs)).2.2.1 = P1 ∧ (live now zs).length = m := ⟨_, _, _, rfl, rfl, rfl⟩
    have HP : Hid (PV (live now zs) = .agg #[.int .i64 P0, .int .i64 P1, .int .i64 (m : Int)]) := by show _ = _; unfold PV; rw [e0, e1, e2]
    rw [e0, e1, e2] at HM
    rw [e1] at HQ
    rw [e2] at hml
    have HE2 := Lib.hid e2
    clear e0 e1 e2
    go_enter Try.func8, Try.ntmps8
    go_wp2_with fail
    refine (awake _).mono ?_
    rintro e w1 ⟨rfl, b1⟩
    have B1 := Lib.hid b1
    have S1 := Lib.hid ((HS.out.below b1).more b1.size)
    clear b1 HS
    go_wp2_with fail
    refine (ofE now zs A c zs.length w1 _ rfl HP.out S1.out HLM.out).mono ?_
    rintro e w2 ⟨rfl, b2⟩
    have B2 := B1.out.trans (b2.mono B1.out.size)
    have S2 := (S1.out.below b2).more b2.size
    have sb2 := B2.size
    have I3 := Is.new w2 33 #[.int .i64 P0, .int .i64 P1, .int .i64 (m : Int)] rfl
    have B3 := B2.alloc sb2 (.cells #[.int .i64 P0, .int .i64 P1, .int .i64 (m : Int)] 33)
    have S3 := (S2.alloc (Nat.le_refl _) (.cells #[.int .i64 P0, .int .i64 P1, .int .i64 (m : Int)] 33)).more (B := w2.heap.size) (Nat.le_of_lt I3.lt)
    clear b2 B1 S1 S2 B2
    go_wp2_with fail
    generalize w2.alloc (.cells #[.int .i64 P0, .int .i64 P1, .int .i64 (m : Int)] 33) = w3 at *
    have c50 : w3.cell? ⟨w2.heap.size, 0, none⟩ = some (.int .i64 P0) := I3.cell' rfl
    have c51 : w3.cell? ⟨w2.heap.size, 1, none⟩ = some (.int .i64 P1) := I3.cell' rfl
    have c52 : w3.cell? ⟨w2.heap.size, 2, none⟩ = some (.int .i64 (m : Int)) := I3.cell' rfl
    have HB3 := Lib.hid B3
    have HS3 := Lib.hid S3
    clear I3 B3 S3
    generalize w2.heap.size = g at *
    go_loopw [6, 7, 8] (fun lu lb i wr => ∃ j : Nat, j ≤ zs.length ∧ i = .int .i64 j ∧ lu = .int .i64 ((live now (zs.take j)).length : Int) ∧ lb = .bool (metS P0 P1 (live now (zs.take j))) ∧ Drawn w3 wr) (fun _ _ i _ => zs.length - (intOf i).toNat)
    case atStart => exact ⟨0, Nat.zero_le _, rfl, rfl, rfl, Drawn.refl _⟩
    case round =>
      obtain ⟨j, hj, rfl, rfl, rfl, hD⟩ := hrel
      have HD := Lib.hid hD
      have k50 := (hD.cell ⟨g, 0, none⟩).trans c50
      have k51 := (hD.cell ⟨g, 1, none⟩).trans c51
      have k52 := (hD.cell ⟨g, 2, none⟩).trans c52
      clear hD
      by_cases hlt : j < zs.length
      · obtain ⟨p, off, rfl, _, hp, q0, q1, q2, q3⟩ := (HD.out.seq HS3.out).ses hlt
        have HT2 : Hid (live now (zs.take (j + 1)) = if now < zs[j].2.2.2 then live now (zs.take j) ++ [zs[j]] else live now (zs.take j)) := by show _ = _; rw [List.take_succ_eq_append_getElem hlt, live_snoc]
        have hol := live_length now (zs.take j)
        have hol2 : (live now (zs.take j)).length ≤ 200 := by simp at hol; omega
        have HQ2 : Hid (now < zs[j].2.2.2 → zs[j].2.2.1 ≤ P1) := fun h => HQ.out _ (List.mem_filter.2 ⟨List.getElem_mem hlt, by simpa using h⟩)
        clear hol
        generalize live now (zs.take j) = os at *
        generalize zs[j] = q at *
        obtain ⟨x0, x1, x2, x3⟩ := q
        simp only at q0 q1 q2 q3 HT2 HQ2
        by_cases hk : now < x3
        · have d1 : decide (x3 ≤ now) = false := by simp; omega
          have d2 : decide (P1 < x2) = false := by have := HQ2.out hk; simp; omega
          have HX : Hid (live now (zs.take (j + 1)) = os ++ [(x0, x1, x2, x3)]) := by show _ = _; rw [HT2.out, if_pos hk]
          have HMS := Lib.hid (metS_snoc P0 P1 os (x0, x1, x2, x3))
          generalize hb : metS P0 P1 os = b at *
          clear hb
          go_wp2_with fail
          go_quiet (fail)
          go_wp2_with fail
          cases b with
          | true =>
            go_quiet (fail)
            go_wp2_with fail
            go_roundw
            case rel => exact ⟨j + 1, by omega, by go_num, by rw [HX.out]; simp, by rw [HX.out, HMS.out]; rfl, HD.out.drewN _⟩
            case measure => simp [intOf]; omega
          | false =>
            cases h2 : (x2 == P1) with
            | false =>
              go_quiet (fail)
              go_wp2_with fail
              go_roundw
              case rel => exact ⟨j + 1, by omega, by go_num, by rw [HX.out]; simp, by rw [HX.out, HMS.out]; simp only [h2]; rfl, HD.out.drewN _⟩
              case measure => simp [intOf]; omega
            | true =>
              cases h1 : (x1 == P0) with
              | false =>
                go_quiet (fail)
                go_wp2_with fail
                go_roundw
                case rel => exact ⟨j + 1, by omega, by go_num, by rw [HX.out]; simp, by rw [HX.out, HMS.out]; simp only [h2, h1]; rfl, HD.out.drewN _⟩
                case measure => simp [intOf]; omega
              | true =>
                go_quiet (fail)
                go_wp2_with fail
                go_roundw
                case rel => exact ⟨j + 1, by omega, by go_num, by rw [HX.out]; simp, by rw [HX.out, HMS.out]; simp only [h2, h1]; rfl, HD.out.drewN _⟩
                case measure => simp [intOf]; omega
        · have d1 : decide (x3 ≤ now) = true := by simp; omega
          have HX : Hid (live now (zs.take (j + 1)) = os) := by show _ = _; rw [HT2.out, if_neg hk]
          go_wp2_with fail
          go_roundw
          case rel => exact ⟨j + 1, by omega, by go_num, by rw [HX.out], by rw [HX.out], HD.out⟩
          case measure => simp [intOf]; omega
      · rw [List.take_of_length_le (by omega), HM.out, HE2.out]
        by_cases hm : m = 0
        · have d1 : decide ((0 : Int) < (m : Int)) = false := by simp; omega
          go_wp2_with fail
          go_ret
          exact ⟨by simp, HD.out.below HB3.out⟩
        · have d1 : decide ((0 : Int) < (m : Int)) = true := by simp; omega
          go_wp2_with fail
          go_ret
          exact ⟨by simp, HD.out.below HB3.out⟩

set_option maxRecDepth 100000 in
theorem lifted (os : Os) (started : os.Started) (H : Type) (enc : TypeId × Value → H) :
    ReturnsInHanded {} Try.checked os 8 .any (Rows.aggrTopSpec.pre6 enc Try.prog Try.f8 Rows.aggrTopRow.domain false) (Rows.aggrTopSpec.post enc Try.prog Try.f8 false true false false) := by
  refine returnsInHanded_of_change (C := Try.checked) own started (by kernel_rfl) Try.func8
    (ChangeSpec.witness6 (enc := enc) (C := Try.checked) false ⟨#[], #[.slice none 0 0, .int .u64 0], []⟩ 8 (by kernel_rfl) (by kernel_rfl) (by kernel_rfl) (by kernel_rfl)) ?_
  intro W base args ds gs before hval0 hW hcnd _
  have hval : ∀ (j : Nat) t v, Try.f8.params[j]? = some t → args[j]? = some v → Value.okWide Try.prog W .any base t v := hval0
  have hW' := hW
  obtain ⟨p, q, hA0, hV, rfl, hfz, hnd⟩ := hW
  have hA : DataW.TrodAll enc Try.prog W 0 (fun _ => true) true Try.f8.params.toList args.toList ds p := hA0
  rw [Try.params8] at hA hval
  obtain ⟨v0, vs0, d0, ds0, p0, q0, hargs, rfl, rfl, h0, r0⟩ := trodAll_cons hA
  obtain ⟨v1, vs1, d1, ds1, p1, q1, rfl, rfl, rfl, h1, r1⟩ := trodAll_cons r0
  obtain ⟨rfl, rfl, rfl⟩ := trodAll_nil r1
  obtain rfl : args = #[v0, v1] := by cases args; simp_all
  obtain ⟨A, c, l, rfl, hs, hl⟩ := Law.open_sess Try.underlying22 Try.underlying30 (by kernel_rfl) rfl rfl rfl rfl (by kernel_rfl) (by kernel_rfl) (by kernel_rfl) (by kernel_rfl) (by kernel_rfl) (by kernel_rfl) (by kernel_rfl) (by kernel_rfl) (hval 0 22 v0 rfl rfl) h0
  obtain ⟨a1, rfl, rfl, rfl, w1⟩ := open_int Try.underlying23 (hval 1 23 v1 rfl rfl) h1
  refine (walk l A c a1 W hs hl).mono fun e W' ⟨he, bel⟩ => ?_
  subst he
  exact ⟨_, rfl, Law.post_law laidOut (by kernel_rfl) (by kernel_rfl) Try.underlying4 rfl (fun ds h => by match ds, h with | [_, _], _ => rfl) hW' bel⟩

theorem proved : Rows.AggrTopSaid :=
  OpenClaim.holds_of_wide 8 Try.f8 rfl rfl rfl rfl rfl rfl rfl ⟨rfl, rfl, rfl, rfl, rfl⟩ rfl rfl rfl rfl rfl (by kernel_rfl) Try.func8 (by kernel_rfl)
    (of_decide_eq_true (by kernel_rfl)) (by unfold Func.isWrapper; rw [if_neg (by decide +kernel)]; exact ⟨rfl, rfl⟩)
    (fun os started H enc _ => lifted os started H enc)
#print axioms proved
end Go.Proofs.Ytmcbjfmlncellaa.aggrTop
