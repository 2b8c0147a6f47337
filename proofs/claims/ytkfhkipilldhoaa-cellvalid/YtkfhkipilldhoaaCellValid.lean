/-
  CellValid: whatever the three numbers, the statement's function returns true, and the arguments read as before. No condition.
-/
import Derived.Test.YtkfhkipilldhoaaCell02
namespace Go.Proofs.Ytkfhkipilldhoaa.cellValid
open Go.ChangeShapes Go.WideShapes Go.ChangeAt Go.RowKit
open Door Go.Proofs.Ytkfhkipilldhoaa.Cell

set_option maxRecDepth 100000 in
set_option maxHeartbeats 1600000 in
theorem walk (a b c : Int) (ha : U a) (hc : U c) (w : World) :
    Calls Try.prog 4 #[.int .u64 a, .int .u64 b, .int .u64 c] w fun e w' => e = .returned (.bool true) ∧ Below w.heap.size w w' := by
  have HV : Hid (val a b c = (a == b && !(a % 2 == 1) && decide (a < ev c))) := rfl
  have HT := Lib.hid (tmod2 ha)
  cases d1 : (a == b) with
  | false =>
    have hv : val a b c = false := by rw [HV.out, d1]; rfl
    go_enter Try.func4, Try.ntmps4
    go_wp2_with fail
    refine (awake w).mono ?_
    rintro e w1 ⟨rfl, b1⟩
    have HB := Lib.hid b1
    clear b1
    go_wp2_with fail
    refine (valid a b c ha hc _).mono ?_
    rintro e w2 ⟨rfl, rfl⟩
    rw [hv]
    go_wp2_with fail
    go_ret
    exact ⟨rfl, HB.out⟩
  | true =>
    cases d2 : (a.tmod 2 == 0) with
    | false =>
      have hv : val a b c = false := by
        have : (a % 2 == 1) = true := by rw [HT.out] at d2; simp at d2 ⊢; omega
        rw [HV.out, d1, this]; rfl
      go_enter Try.func4, Try.ntmps4
      go_wp2_with fail
      refine (awake w).mono ?_
      rintro e w1 ⟨rfl, b1⟩
      have HB := Lib.hid b1
      clear b1
      go_wp2_with fail
      refine (valid a b c ha hc _).mono ?_
      rintro e w2 ⟨rfl, rfl⟩
      rw [hv]
      go_wp2_with fail
      go_ret
      exact ⟨rfl, HB.out⟩
    | true =>
      have hv : val a b c = decide (a < ev c) := by
        have : (a % 2 == 1) = false := by rw [HT.out] at d2; simp at d2 ⊢; omega
        rw [HV.out, d1, this]; rfl
      go_enter Try.func4, Try.ntmps4
      go_wp2_with fail
      refine (awake w).mono ?_
      rintro e w1 ⟨rfl, b1⟩
      have HB := Lib.hid b1
      clear b1
      go_wp2_with fail
      refine (valid a b c ha hc _).mono ?_
      rintro e w2 ⟨rfl, rfl⟩
      rw [hv]
      clear hv
      go_wp2_with fail
      refine (refBound c hc _).mono ?_
      rintro e w3 ⟨rfl, rfl⟩
      cases d3 : decide (a < ev c) with
      | true =>
        go_wp2_with fail
        go_ret
        exact ⟨rfl, HB.out⟩
      | false =>
        go_wp2_with fail
        go_ret
        exact ⟨rfl, HB.out⟩

set_option maxRecDepth 100000 in
theorem lifted (os : Os) (started : os.Started) (H : Type) (enc : TypeId × Value → H) :
    ReturnsInHanded {} Try.checked os 4 .any (Rows.cellValidSpec.pre6 enc Try.prog Try.f4 Rows.cellValidRow.domain false) (Rows.cellValidSpec.post enc Try.prog Try.f4 false true false false) := by
  refine returnsInHanded_of_change (C := Try.checked) own started (by kernel_rfl) Try.func4
    (ChangeSpec.witness6 (enc := enc) (C := Try.checked) false ⟨#[], #[.int .u64 0, .int .u64 0, .int .u64 0], []⟩ 8 (by kernel_rfl) (by kernel_rfl) (by kernel_rfl) (by kernel_rfl)) ?_
  intro W base args ds gs before hval0 hW hcnd _
  have hval : ∀ (j : Nat) t v, Try.f4.params[j]? = some t → args[j]? = some v → Value.okWide Try.prog W .any base t v := hval0
  have hW' := hW
  obtain ⟨p, q, hA0, hV, rfl, hfz, hnd⟩ := hW
  have hA : DataW.TrodAll enc Try.prog W 0 (fun _ => true) true Try.f4.params.toList args.toList ds p := hA0
  rw [Try.params4] at hA hval
  obtain ⟨v0, vs0, d0, ds0, p0, q0, hargs, rfl, rfl, h0, r0⟩ := trodAll_cons hA
  obtain ⟨v1, vs1, d1, ds1, p1, q1, rfl, rfl, rfl, h1, r1⟩ := trodAll_cons r0
  obtain ⟨v2, vs2, d2, ds2, p2, q2, rfl, rfl, rfl, h2, r2⟩ := trodAll_cons r1
  obtain ⟨rfl, rfl, rfl⟩ := trodAll_nil r2
  obtain rfl : args = #[v0, v1, v2] := by cases args; simp_all
  obtain ⟨a0, rfl, rfl, rfl, w0⟩ := open_int Try.underlying22 (hval 0 22 v0 rfl rfl) h0
  obtain ⟨a1, rfl, rfl, rfl, w1⟩ := open_int Try.underlying22 (hval 1 22 v1 rfl rfl) h1
  obtain ⟨a2, rfl, rfl, rfl, w2⟩ := open_int Try.underlying22 (hval 2 22 v2 rfl rfl) h2
  refine (walk a0 a1 a2 (ofwf w0) (ofwf w2) W).mono fun e W' ⟨he, bel⟩ => ?_
  subst he
  exact ⟨_, rfl, Law.post_law laidOut (by kernel_rfl) (by kernel_rfl) Try.underlying4 rfl (fun ds h => by match ds, h with | [_, _, _], _ => rfl) hW' bel⟩

theorem proved : Rows.CellValidSaid :=
  OpenClaim.holds_of_wide 4 Try.f4 rfl rfl rfl rfl rfl rfl rfl ⟨rfl, rfl, rfl, rfl, rfl⟩ rfl rfl rfl rfl rfl (by kernel_rfl) Try.func4 (by kernel_rfl)
    (of_decide_eq_true (by kernel_rfl)) (by unfold Func.isWrapper; rw [if_neg (by decide +kernel)]; exact ⟨rfl, rfl⟩)
    (fun os started H enc _ => lifted os started H enc)
#print axioms proved
end Go.Proofs.Ytkfhkipilldhoaa.cellValid
