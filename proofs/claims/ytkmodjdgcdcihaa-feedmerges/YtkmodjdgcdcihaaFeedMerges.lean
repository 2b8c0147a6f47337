/-
  Events of several feeds, put together, are the document's. For all lists, no condition.
-/
import Derived.Test.YtkmodjdgcdcihaaFeed08
import Derived.Test.YtkmodjdgcdcihaaFeed05
import Derived.Test.YtkmodjdgcdcihaaFeed10
namespace Go.Proofs.Ytkmodjdgcdcihaa.feedMerges
open Go.RowKit Go.ChangeShapes Go.WideShapes Go.ChangeAt
open Feed Go.Law
set_option maxRecDepth 100000 in
set_option maxHeartbeats 4000000 in
theorem walk (l : List (RowV Ev)) (A : Option Addr) (c : Nat) (w : World) (hc : l.length ≤ c) (hR : Feed.Rows w A l) (hl : l.length ≤ maxLen) (hq : ∀ q ∈ l, q.xs.length ≤ maxLen) :
    Calls Try.prog 4 #[.slice A l.length c] w fun e w' => e = .returned (.bool true) ∧ Below w.heap.size w w' := by
  have HR := Lib.hid hR
  have HQ := Lib.hid hq
  unfold maxLen at hl
  clear hR hq
  go_enter Try.func4, Try.ntmps4
  go_wp2_with fail
  go_loop [3, 4] (fun vn vi => ∃ j : Nat, j ≤ l.length ∧ vn = .int .i64 (cnt l j : Int) ∧ vi = .int .i64 j) (fun _ vi => l.length - (intOf vi).toNat)
  case atStart => exact ⟨0, Nat.zero_le _, by rw [cnt_zero], rfl⟩
  case round =>
    obtain ⟨j, hj, rfl, rfl⟩ := hrel
    by_cases hgo : j < l.length ∧ cnt l j ≤ 200
    · obtain ⟨hlt, hle⟩ := hgo
      have d1 : decide ((j : Int) < (l.length : Int)) = true := by simp; omega
      have d2 : decide ((cnt l j : Int) ≤ 200) = true := by simp; omega
      obtain ⟨b, o, rfl, hb, c0⟩ := HR.out.at hlt
      have HS := Lib.hid (cnt_succ l hlt)
      have hm := HQ.out _ (List.getElem_mem hlt)
      unfold maxLen at hm
      generalize l[j].xs.length = m at *
      generalize l[j].A = B at *
      generalize l[j].c = d at *
      obtain ⟨N, hN⟩ : ∃ N, cnt l j = N := ⟨_, rfl⟩
      rw [hN] at HS d2 hle ⊢
      by_cases hm2 : m ≤ 201
      · have d3 : decide ((201 : Int) < (m : Int)) = false := by simp; omega
        go_wp2_with fail
        go_round
        case rel => exact ⟨j + 1, by omega, by rw [HS.out, show min m 201 = m by omega]; go_num, by go_num⟩
        case measure => simp [intOf]; omega
      · have d3 : decide ((201 : Int) < (m : Int)) = true := by simp; omega
        go_wp2_with fail
        go_round
        case rel => exact ⟨j + 1, by omega, by rw [HS.out, show min m 201 = 201 by omega]; go_num, by go_num⟩
        case measure => simp [intOf]; omega
    · by_cases hlt : j < l.length
      · have d1 : decide ((j : Int) < (l.length : Int)) = true := by simp; omega
        have d2 : decide ((cnt l j : Int) ≤ 200) = false := by simp; omega
        have d4 : decide (200 < (cnt l j : Int)) = true := by simp; omega
        go_wp2_with fail
        refine (awake w).mono ?_
        rintro e w1 ⟨rfl, hB⟩
        have HB := Lib.hid hB
        clear hB
        go_wp2_with fail
        refine (awake w1).mono ?_
        rintro e w2 ⟨rfl, hB⟩
        have HB2 := Lib.hid (HB.out.trans (hB.mono HB.out.size))
        clear hB HB
        go_wp2_with fail
        go_ret
        exact ⟨rfl, HB2.out⟩
      · have d1 : decide ((j : Int) < (l.length : Int)) = false := by simp; omega
        by_cases hle : cnt l j ≤ 200
        · skip
          obtain rfl : j = l.length := by omega
          have hsm := cnt_small l (by omega)
          have HT : Hid (total (evs l) = (l.map fun q => q.xs.length).sum) := total_evs l
          have d4 : decide (200 < (cnt l l.length : Int)) = false := by simp; omega
          go_wp2_with fail
          refine (awake w).mono ?_
          rintro e w1 ⟨rfl, hB⟩
          have HB := Lib.hid hB
          have HR1 := Lib.hid (HR.out.below hB)
          have sz1 := hB.size
          clear hB HR
          go_wp2_with fail
          refine (mergeAll l.length l A c w1 (Nat.le_refl _) HR1.out hc (by have := HT.out; omega) (by omega)).mono ?_
          rintro e w2 ⟨A2, c2, rfl, hc2, hs, hb⟩
          have HS2 := Lib.hid hs
          have HR2 := Lib.hid (HR1.out.below hb)
          have HB2 := Lib.hid (HB.out.trans (hb.mono sz1))
          have sz2 := HB2.out.size
          have hw12 := hb.size
          clear hs hb HR1 HB
          go_wp2_with fail
          refine (refMerge l A c w2 HR2.out (by have := HT.out; omega) (by omega)).mono ?_
          rintro e w3 ⟨A3, c3, rfl, hc3, hs, hb⟩
          have HS3 := Lib.hid (hs.from_ (Nat.zero_le _))
          have HS2b := Lib.hid (((HS2.out.below hb).more hb.size).from_ (Nat.zero_le _))
          have HB3 := Lib.hid (HB2.out.trans (hb.mono sz2))
          have sz3 := HB3.out.size
          have hal : (all (evs l)).length ≤ 1000 := by rw [all_len]; have := HT.out; omega
          clear hs hb HS2 HB2
          go_wp2_with fail
          refine (refSame (all (evs l)) A2 A3 c2 c3 w3 HS2b.out HS3.out hal).mono ?_
          rintro e w4 ⟨rfl, hb⟩
          have HB4 := Lib.hid (HB3.out.trans (hb.mono sz3))
          clear hb
          go_wp2_with fail
          go_ret
          exact ⟨rfl, HB4.out⟩
        · skip
          have d4 : decide (200 < (cnt l j : Int)) = true := by simp; omega
          go_wp2_with fail
          refine (awake w).mono ?_
          rintro e w1 ⟨rfl, hB⟩
          have HB := Lib.hid hB
          clear hB
          go_wp2_with fail
          refine (awake w1).mono ?_
          rintro e w2 ⟨rfl, hB⟩
          have HB2 := Lib.hid (HB.out.trans (hB.mono HB.out.size))
          clear hB HB
          go_wp2_with fail
          go_ret
          exact ⟨rfl, HB2.out⟩

set_option maxRecDepth 100000 in
theorem lifted (os : Os) (started : os.Started) (H : Type) (enc : TypeId × Value → H) :
    ReturnsInHanded {} Try.checked os 4 .any (Rows.feedMergesSpec.pre6 enc Try.prog Try.f4 Rows.feedMergesRow.domain false) (Rows.feedMergesSpec.post enc Try.prog Try.f4 false true false false) := by
  refine returnsInHanded_of_change (C := Try.checked) own started (by kernel_rfl) Try.func4
    (ChangeSpec.witness6 (enc := enc) (C := Try.checked) false ⟨#[], #[.slice none 0 0], []⟩ 8 (by kernel_rfl) (by kernel_rfl) (by kernel_rfl) (by kernel_rfl)) ?_
  intro W base args ds gs before hval0 hW hcnd _
  have hval : ∀ (j : Nat) t v, Try.f4.params[j]? = some t → args[j]? = some v → Value.okWide Try.prog W .any base t v := hval0
  have hW' := hW
  obtain ⟨p, q, hA0, hV, rfl, hfz, hnd⟩ := hW
  have hA : DataW.TrodAll enc Try.prog W 0 (fun _ => true) true Try.f4.params.toList args.toList ds p := hA0
  rw [Try.params4] at hA hval
  obtain ⟨v0, vs0, d0, ds0, p0, q0, hargs, rfl, rfl, h0, r0⟩ := trodAll_cons hA
  obtain ⟨rfl, rfl, rfl⟩ := trodAll_nil r0
  obtain rfl : args = #[v0] := by cases args; simp_all
  obtain ⟨A, c, l, rfl, hc, hs, hl, hq⟩ := open_evs (hval 0 53 v0 rfl rfl) h0
  refine (walk l A c W hc ⟨hs, fun q h => (hq q h).1, fun q h => (hq q h).2.2⟩ hl (fun q h => (hq q h).2.1)).mono fun e W' ⟨he, bel⟩ => ?_
  subst he
  exact ⟨_, rfl, Law.post_law laidOut (by kernel_rfl) (by kernel_rfl) Try.underlying4 rfl (fun ds h => by match ds, h with | [_], _ => rfl) hW' bel⟩

theorem proved : Rows.FeedMergesSaid :=
  OpenClaim.holds_of_wide 4 Try.f4 rfl rfl rfl rfl rfl rfl rfl ⟨rfl, rfl, rfl, rfl, rfl⟩ rfl rfl rfl rfl rfl (by kernel_rfl) Try.func4 (by kernel_rfl)
    (of_decide_eq_true (by kernel_rfl)) (by unfold Func.isWrapper; rw [if_neg (by decide +kernel)]; exact ⟨rfl, rfl⟩)
    (fun os started H enc _ => lifted os started H enc)
#print axioms proved
end Go.Proofs.Ytkmodjdgcdcihaa.feedMerges
