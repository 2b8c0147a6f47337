/-
  LatchBack: whoever takes and gives, the statement's function returns true. No condition.
-/
import Derived.Test.YtnbnhkijmlbefaaLatch03
namespace Go.Proofs.Ytnbnhkijmlbefaa.latchBack
open Go.ChangeShapes Go.WideShapes Go.ChangeAt Go.RowKit
open Go.Law Go.Proofs.Ytnbnhkijmlbefaa.Lt
theorem tk0 {a : Int} (h0 : 0 ≤ a) (h1 : a ≤ 255) : tk 0 a = (a + 1, true) := if_pos (by simp [pr]; omega)
theorem gvS {a b : Int} (h0 : 0 ≤ a) (h : a = b) : gv (a + 1) b = (0, true) := if_pos (by simp [h]; omega)
theorem gvN {a b : Int} (h : a ≠ b) : gv (a + 1) b = (a + 1, false) := if_neg (by simp; intro _; omega)
theorem gv0 {b : Int} : gv 0 b = (0, false) := rfl
theorem bounds_u8 {a : Int} (h : (Lit.int .u8 a).wf = true) : 0 ≤ a ∧ a ≤ 255 := by simpa [Lit.wf, IntKind.min, IntKind.max, IntKind.signed, IntKind.bits] using h
set_option maxRecDepth 100000 in
set_option maxHeartbeats 3200000 in
theorem walk (a o : Int) (ha : 0 ≤ a ∧ a ≤ 255) (ho : 0 ≤ o ∧ o ≤ 255) (w : World) :
    Calls Try.prog 6 #[.int .u8 a, .int .u8 o] w fun e w' => e = .returned (.bool true) ∧ Below w.heap.size w w' := by
  have wa : IntKind.i64.wrap a = a := by rw [IntKind.wrap_i64]; omega
  have wo : IntKind.i64.wrap o = o := by rw [IntKind.wrap_i64]; omega
  have HA := Lib.hid ha
  have HP := Lib.hid ho
  clear ha ho
  obtain ⟨s, hs⟩ : ∃ s : Bool, (a == o) = s := ⟨_, rfl⟩
  obtain ⟨x1, h1⟩ : ∃ x, a + 1 = x := ⟨_, rfl⟩
  have hT : Hid (tk 0 a = (x1, true)) := by show _ = _; rw [← h1]; exact tk0 HA.out.1 HA.out.2
  have hO1 : Hid (Ok x1) := by show Ok x1; have := HA.out; unfold Ok; omega
  obtain ⟨x2, h2⟩ : ∃ x, (if s then 0 else x1) = x := ⟨_, rfl⟩
  have hG1 : Hid (gv x1 o = (x2, s)) := by
    show _ = _
    rw [← h2, ← h1]
    cases s with
    | true => exact gvS HA.out.1 (by simpa using hs)
    | false => exact gvN (by simpa using hs)
  have hO2 : Hid (Ok x2) := by
    show Ok x2
    rw [← h2]
    split
    · unfold Ok; omega
    · exact hO1.out
  have hG2 : Hid (gv x2 a = (0, !s)) := by
    show _ = _
    rw [← h2, ← h1]
    cases s with
    | true => exact gv0
    | false => exact gvS HA.out.1 rfl
  have hG3 : Hid (gv 0 a = (0, false)) := gv0
  have hO0 : Hid (Ok 0) := by show Ok 0; unfold Ok; omega
  have e1 : (s == s) = true := by simp
  have e2 : (a != o) = !s := by rw [← hs]; rfl
  have e3 : ((!s) == (!s)) = true := by simp
  have e4 : (!s == !s) = !(s == !s) := rfl
  clear h1 h2
  go_enter Try.func6, Try.ntmps6
  go_wp2_with fail
  refine (awake w).mono ?_
  rintro e w1 ⟨rfl, b1⟩
  have H1 := Lib.hid (Has.new 0 b1)
  clear b1
  have c1 := H1.out.c0
  have l1 := H1.out.lt
  go_wp2_with fail
  generalize w1.alloc (C 0) = w2 at *
  generalize w1.heap.size = g1 at *
  refine (take1 0 a x1 true hT.out _).mono ?_
  rintro e w3 ⟨rfl, b3⟩
  have H3 := Lib.hid (Has.new x1 (H1.out.next b3).below)
  clear b3 H1 c1 l1
  have c1 := H3.out.c0
  have l1 := H3.out.lt
  go_wp2_with fail
  generalize w3.alloc (C x1) = w4 at *
  generalize w3.heap.size = g3 at *
  refine (give1 x1 o hO1.out x2 s hG1.out _).mono ?_
  rintro e w5 ⟨rfl, b5⟩
  have H5 := Lib.hid (Has.new x2 (H3.out.next b5).below)
  clear b5 H3 c1 l1
  have c1 := H5.out.c0
  have l1 := H5.out.lt
  go_wp2_with fail
  generalize w5.alloc (C x2) = w6 at *
  generalize w5.heap.size = g5 at *
  refine (give1 x2 a hO2.out 0 (!s) hG2.out _).mono ?_
  rintro e w7 ⟨rfl, b7⟩
  have H7 := Lib.hid (Has.new 0 (H5.out.next b7).below)
  clear b7 H5 c1 l1
  have c1 := H7.out.c0
  have l1 := H7.out.lt
  go_wp2_with fail
  generalize w7.alloc (C 0) = w8 at *
  generalize w7.heap.size = g7 at *
  refine (give1 0 a hO0.out 0 false hG3.out _).mono ?_
  rintro e w9 ⟨rfl, b9⟩
  have H9 := Lib.hid ((H7.out.next b9).next (one _ (C 0)))
  clear b9 H7 c1 l1
  have c1 := H9.out.c0
  have l1 := H9.out.lt
  go_wp2_with fail
  generalize w9.alloc (C 0) = w10 at *
  refine (freeB 0 true rfl _).mono ?_
  rintro e w11 ⟨rfl, b11⟩
  have H11 := Lib.hid (H9.out.next b11)
  clear b11 H9 c1 l1
  have c1 := H11.out.c0
  have l1 := H11.out.lt
  go_wp2_with fail
  refine (ownerB 0 hO0.out (-1) rfl _).mono ?_
  rintro e w12 ⟨rfl, b12⟩
  have H12 := Lib.hid (H11.out.next b12)
  clear b12 H11 c1 l1
  go_wp2_with fail
  go_ret
  exact ⟨rfl, H12.out.below⟩

set_option maxRecDepth 100000 in
theorem lifted (os : Os) (started : os.Started) (H : Type) (enc : TypeId × Value → H) :
    ReturnsInHanded {} Try.checked os 6 .any (Rows.latchBackSpec.pre6 enc Try.prog Try.f6 Rows.latchBackRow.domain false) (Rows.latchBackSpec.post enc Try.prog Try.f6 false true false false) := by
  refine returnsInHanded_of_change (C := Try.checked) own started (by kernel_rfl) Try.func6
    (ChangeSpec.witness6 (enc := enc) (C := Try.checked) false ⟨#[], #[.int .u8 0, .int .u8 0], []⟩ 8 (by kernel_rfl) (by kernel_rfl) (by kernel_rfl) (by kernel_rfl)) ?_
  intro W base args ds gs before hval0 hW hcnd _
  have hval : ∀ (j : Nat) t v, Try.f6.params[j]? = some t → args[j]? = some v → Value.okWide Try.prog W .any base t v := hval0
  have hW' := hW
  obtain ⟨p, q, hA0, hV, rfl, hfz, hnd⟩ := hW
  have hA : DataW.TrodAll enc Try.prog W 0 (fun _ => true) true Try.f6.params.toList args.toList ds p := hA0
  rw [Try.params6] at hA hval
  obtain ⟨v0, vs0, d0, ds0, p0, q0, hargs, rfl, rfl, h0, r0⟩ := trodAll_cons hA
  obtain ⟨v1, vs1, d1, ds1, p1, q1, rfl, rfl, rfl, h1, r1⟩ := trodAll_cons r0
  obtain ⟨rfl, rfl, rfl⟩ := trodAll_nil r1
  obtain rfl : args = #[v0, v1] := by cases args; simp_all
  obtain ⟨a0, rfl, rfl, rfl, w0⟩ := open_int Try.underlying5 (hval 0 5 v0 rfl rfl) h0
  obtain ⟨a1, rfl, rfl, rfl, w1⟩ := open_int Try.underlying5 (hval 1 5 v1 rfl rfl) h1
  refine (walk a0 a1 (bounds_u8 w0) (bounds_u8 w1) W).mono fun e W' ⟨he, bel⟩ => ?_
  subst he
  exact ⟨_, rfl, Law.post_law laidOut (by kernel_rfl) (by kernel_rfl) Try.underlying4 rfl (fun ds h => by match ds, h with | [_, _], _ => rfl) hW' bel⟩

theorem proved : Rows.LatchBackSaid :=
  OpenClaim.holds_of_wide 6 Try.f6 rfl rfl rfl rfl rfl rfl rfl ⟨rfl, rfl, rfl, rfl, rfl⟩ rfl rfl rfl rfl rfl (by kernel_rfl) Try.func6 (by kernel_rfl)
    (of_decide_eq_true (by kernel_rfl)) (by unfold Func.isWrapper; rw [if_neg (by decide +kernel)]; exact ⟨rfl, rfl⟩)
    (fun os started H enc _ => lifted os started H enc)
#print axioms proved
end Go.Proofs.Ytnbnhkijmlbefaa.latchBack
