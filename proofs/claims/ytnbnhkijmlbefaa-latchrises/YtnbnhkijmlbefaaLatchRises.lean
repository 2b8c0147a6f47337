/-
  LatchRises: whatever the numbers, the statement's function returns true, and the argument reads as before. No condition.
-/
import Derived.Test.YtnbnhkijmlbefaaLatch03
import Derived.Test.YtnbnhkijmlbefaaNums
import Derived.Lib.QuietBelow
import Derived.BigQuiet
namespace Go.Proofs.Ytnbnhkijmlbefaa.latchRises
open Go.ChangeShapes Go.WideShapes Go.ChangeAt Go.RowKit
open Go.Law Go.Proofs.Ytnbnhkijmlbefaa.Lt
/-- the number at a place -/
def at_ (l : List Int) (i : Nat) : Int := l.getD i 0
theorem at_eq {l : List Int} {i : Nat} (h : i < l.length) : at_ l i = l[i] := by simp [at_, List.getD_eq_getElem?_getD, List.getElem?_eq_getElem h]
/-- each but the first one of the first k is greater than the one ahead of it -/
def Up (l : List Int) (k : Nat) : Prop := ∀ i, i + 1 < k → at_ l i < at_ l (i + 1)
/-- each of the first k is greater than all ahead of it -/
def Upp (l : List Int) (k : Nat) : Prop := ∀ j, j < k → ∀ i, i < j → at_ l i < at_ l j
theorem up_upp {l : List Int} {k : Nat} : Up l k ↔ Upp l k := by
  constructor
  · intro h j
    induction j with
    | zero => intro _ i hi; omega
    | succ j ih =>
      intro hj i hi
      rcases Nat.lt_or_ge i j with h1 | h1
      · exact Int.lt_trans (ih (by omega) i h1) (h j hj)
      · obtain rfl : i = j := by omega
        exact h i hj
  · intro h i hi
    exact h (i + 1) hi i (by omega)

set_option maxRecDepth 100000 in
set_option maxHeartbeats 800000 in
theorem rises (A : Option Addr) (c : Nat) (l : List Int) (hl : l.length ≤ 400) (w : World) (hf : Seq w 0 w.heap.size A (l.map (.int .i64))) :
    Calls Try.prog 15 #[.slice A l.length c] w fun e w' => ∃ r : Bool, e = .returned (.bool r) ∧ (r = true ↔ Up l l.length) ∧ Below w.heap.size w w' := by
  have HF := Lib.hid hf
  clear hf
  go_enter Try.func15, Try.ntmps15
  go_wp2_with fail
  go_loopw [3] (fun i wr => ∃ k : Nat, 1 ≤ k ∧ i = .int .i64 k ∧ Up l k ∧ (k ≤ l.length ∨ k = 1) ∧ Below w.heap.size w wr) (fun i _ => l.length - (intOf i).toNat)
  case atStart => exact ⟨1, Nat.le_refl _, rfl, fun i hi => by omega, .inr rfl, Below.refl _ _⟩
  case round =>
    obtain ⟨k, hk1, rfl, hu, hkn, hb⟩ := hrel
    have HU := Lib.hid hu
    have HB := Lib.hid hb
    clear hu hb
    by_cases hlt : k < l.length
    · have e1 : decide ((k : Int) < (l.length : Int)) = true := by simp; omega
      have hs := HF.out.below HB.out
      obtain ⟨q, off, rfl, _, hq, q0⟩ := hs.int (i := k) hlt
      obtain ⟨q', off', e, _, _, q1⟩ := hs.int (i := k - 1) (by omega)
      obtain ⟨rfl, rfl⟩ : q = q' ∧ off = off' := by simpa using e
      clear e
      rw [← at_eq] at q0 q1
      obtain ⟨j, rfl⟩ : ∃ j, k = j + 1 := ⟨k - 1, by omega⟩
      simp only [Nat.add_sub_cancel] at q1
      obtain ⟨x, hx⟩ : ∃ x, at_ l (j + 1) = x := ⟨_, rfl⟩
      obtain ⟨y, hy⟩ : ∃ y, at_ l j = y := ⟨_, rfl⟩
      rw [hx] at q0
      rw [hy] at q1
      have HX := Lib.hid hx
      have HY := Lib.hid hy
      have lq := block_lt_of_cell q0
      have wj : IntKind.i64.wrap (((j + 1 : Nat) : Int) - 1) = (j : Int) := by rw [IntKind.wrap_i64]; omega
      have wj2 : IntKind.i64.wrap ((j : Int) + 1 - 1) = (j : Int) := by rw [IntKind.wrap_i64]; omega
      simp only at lq
      clear hx hy hs
      by_cases hc : x ≤ y
      · have d1 : decide (x ≤ y) = true := decide_eq_true hc
        go_wp2_with fail
        go_quiet (fail)
        go_wp2_with fail
        go_ret
        refine ⟨false, rfl, ⟨fun h => (Bool.noConfusion h), fun h => absurd (h j hlt) ?_⟩, below_drewN HB.out _⟩
        rw [HX.out, HY.out]
        omega
      · have d1 : decide (x ≤ y) = false := decide_eq_false hc
        go_wp2_with fail
        go_quiet (fail)
        go_wp2_with fail
        go_roundw
        case rel =>
          refine ⟨j + 2, by omega, by go_num, fun i hi => ?_, .inl (by omega), below_drewN HB.out _⟩
          rcases Nat.lt_or_ge (i + 1) (j + 1) with h1 | h1
          · exact HU.out i h1
          · obtain rfl : i = j := by omega
            rw [HX.out, HY.out]
            omega
        case measure => simp [intOf]; omega
    · have e1 : decide ((k : Int) < (l.length : Int)) = false := by simp; omega
      go_wp2_with fail
      go_ret
      refine ⟨true, rfl, ⟨fun _ i hi => HU.out i (by omega), fun _ => rfl⟩, HB.out⟩

set_option maxRecDepth 100000 in
set_option maxHeartbeats 1600000 in
theorem walk (A : Option Addr) (c : Nat) (l : List Int) (hn : l.length ≤ 400) (hI : ∀ z ∈ l, (Lit.int .i64 z).wf = true) (w : World) (hf : Seq w 0 w.heap.size A (l.map (.int .i64))) :
    Calls Try.prog 5 #[.slice A l.length c] w fun e w' => e = .returned (.bool true) ∧ Below w.heap.size w w' := by
  have d0 : decide (400 < (l.length : Int)) = false := by simp; omega
  have HF := Lib.hid hf
  have HI := Lib.hid hI
  clear hf hI
  go_enter Try.func5, Try.ntmps5
  go_wp2_with fail
  refine (awake w).mono ?_
  rintro e w1 ⟨rfl, b1⟩
  have HB1 := Lib.hid b1
  clear b1
  go_wp2_with fail
  go_loopw [3, 4] (fun v i wr => ∃ (k : Nat) (r : Bool), k ≤ l.length ∧ i = .int .i64 k ∧ v = .bool r ∧ (r = true ↔ Upp l k) ∧ Below w.heap.size w wr) (fun _ i _ => l.length - (intOf i).toNat)
  case atStart => exact ⟨0, true, Nat.zero_le _, rfl, rfl, ⟨fun _ j hj => by omega, fun _ => rfl⟩, HB1.out⟩
  case round =>
    clear HB1
    obtain ⟨k, r, hk, rfl, rfl, hr, hb⟩ := hrel
    have HR := Lib.hid hr
    have HB := Lib.hid hb
    clear hr hb
    by_cases hlt : k < l.length
    · have e1 : decide ((k : Int) < (l.length : Int)) = true := by simp; omega
      go_wp2_with fail
      go_loopw [3, 5] (fun v i wr => ∃ (j : Nat) (s : Bool), j ≤ k ∧ i = .int .i64 j ∧ v = .bool s ∧ (s = true ↔ Upp l k ∧ ∀ i, i < j → at_ l i < at_ l k) ∧ Below w.heap.size w wr) (fun _ i _ => k - (intOf i).toNat)
      case atStart => exact ⟨0, r, Nat.zero_le _, rfl, rfl, ⟨fun h => ⟨HR.out.1 h, fun i hi => by omega⟩, fun h => HR.out.2 h.1⟩, HB.out⟩
      case round =>
        clear HB
        obtain ⟨j, s, hj, rfl, rfl, hs, hb⟩ := hrel
        have HS := Lib.hid hs
        have HB := Lib.hid hb
        clear hs hb
        by_cases hjk : j < k
        · have e2 : decide ((j : Int) < (k : Int)) = true := by simp; omega
          have hsq := HF.out.below HB.out
          obtain ⟨q, off, rfl, _, hq, q0⟩ := hsq.int (i := k) hlt
          obtain ⟨q', off', e, _, _, q1⟩ := hsq.int (i := j) (by omega)
          obtain ⟨rfl, rfl⟩ : q = q' ∧ off = off' := by simpa using e
          clear e hsq
          rw [← at_eq] at q0 q1
          obtain ⟨x, hx⟩ : ∃ x, at_ l k = x := ⟨_, rfl⟩
          obtain ⟨y, hy⟩ : ∃ y, at_ l j = y := ⟨_, rfl⟩
          rw [hx] at q0
          rw [hy] at q1
          have HX := Lib.hid hx
          have HY := Lib.hid hy
          have lq := block_lt_of_cell q0
          simp only at lq
          clear hx hy
          cases s with
          | false =>
            go_wp2_with fail
            go_quiet (fail)
            go_wp2_with fail
            go_roundw
            case rel =>
              refine ⟨j + 1, false, by omega, by go_num, rfl, ⟨fun h => Bool.noConfusion h, fun h => HS.out.2 ⟨h.1, fun i hi => h.2 i (by omega)⟩⟩, below_drewN HB.out _⟩
            case measure => simp [intOf]; omega
          | true =>
            obtain ⟨z, hz⟩ : ∃ z, decide (y < x) = z := ⟨_, rfl⟩
            have HZ := Lib.hid hz
            go_wp2_with fail
            go_quiet (fail)
            go_wp2_with fail
            go_roundw
            case rel =>
              refine ⟨j + 1, z, by omega, by go_num, rfl, ?_, below_drewN HB.out _⟩
              have h1 := HS.out.1 trivial
              have h2 := HZ.out
              have h3 := HX.out
              have h4 := HY.out
              subst h3 h4 h2
              refine ⟨fun h => ⟨h1.1, fun i hi => ?_⟩, fun h => decide_eq_true (h.2 j (by omega))⟩
              rcases Nat.lt_or_ge i j with h5 | h5
              · exact h1.2 i h5
              · obtain rfl : i = j := by omega
                exact of_decide_eq_true h
            case measure => simp [intOf]; omega
        · have e2 : decide ((j : Int) < (k : Int)) = false := by simp; omega
          obtain rfl : j = k := by omega
          go_wp2_with fail
          go_roundw
          case rel =>
            refine ⟨j + 1, s, by omega, by go_num, rfl, HS.out.trans ⟨fun h m hm i hi => ?_, fun h => ⟨fun m hm => h m (by omega), fun i hi => h j (by omega) i hi⟩⟩, HB.out⟩
            rcases Nat.lt_or_ge m j with h5 | h5
            · exact h.1 m h5 i hi
            · obtain rfl : m = j := by omega
              exact h.2 i hi
          case measure => simp [intOf]; omega
    · have e1 : decide ((k : Int) < (l.length : Int)) = false := by simp; omega
      obtain rfl : k = l.length := by omega
      go_wp2_with fail
      refine (rises A c l hn _ ((HF.out.below HB.out).more HB.out.size)).mono ?_
      rintro e w9 ⟨s, rfl, hs, b9⟩
      obtain rfl : s = r := by rw [Bool.eq_iff_iff, hs, HR.out]; exact up_upp
      have d1 : (s == s) = true := by simp
      have H9 := Lib.hid (HB.out.trans (b9.mono HB.out.size))
      clear b9 hs
      go_wp2_with fail
      go_ret
      exact ⟨rfl, H9.out⟩

theorem walkLong (A : Option Addr) (n c : Nat) (hn : 400 < n) (w : World) :
    Calls Try.prog 5 #[.slice A n c] w fun e w' => e = .returned (.bool true) ∧ Below w.heap.size w w' := by
  have d0 : decide (400 < (n : Int)) = true := by simp; omega
  go_enter Try.func5, Try.ntmps5
  go_wp2_with fail
  refine (awake w).mono ?_
  rintro e w1 ⟨rfl, b1⟩
  have HB := Lib.hid b1
  clear b1
  go_wp2_with fail
  refine (awake _).mono ?_
  rintro e w2 ⟨rfl, b2⟩
  have HB2 := Lib.hid (HB.out.trans (b2.mono HB.out.size))
  clear b2
  go_wp2_with fail
  go_ret
  exact ⟨rfl, HB2.out⟩

theorem walk0 (A : Option Addr) (c : Nat) (l : List Int) (hI : ∀ z ∈ l, (Lit.int .i64 z).wf = true) (w : World) (hf : Seq w 0 w.heap.size A (l.map (.int .i64))) :
    Calls Try.prog 5 #[.slice A l.length c] w fun e w' => e = .returned (.bool true) ∧ Below w.heap.size w w' := by
  by_cases h : l.length ≤ 400
  · exact walk A c l h hI w hf
  · exact walkLong A _ c (by omega) w

set_option maxRecDepth 100000 in
theorem lifted (os : Os) (started : os.Started) (H : Type) (enc : TypeId × Value → H) :
    ReturnsInHanded {} Try.checked os 5 .any (Rows.latchRisesSpec.pre6 enc Try.prog Try.f5 Rows.latchRisesRow.domain false) (Rows.latchRisesSpec.post enc Try.prog Try.f5 false true false false) := by
  refine returnsInHanded_of_change (C := Try.checked) own started (by kernel_rfl) Try.func5
    (ChangeSpec.witness6 (enc := enc) (C := Try.checked) false ⟨#[], #[.slice none 0 0], []⟩ 8 (by kernel_rfl) (by kernel_rfl) (by kernel_rfl) (by kernel_rfl)) ?_
  intro W base args ds gs before hval0 hW hcnd _
  have hval : ∀ (j : Nat) t v, Try.f5.params[j]? = some t → args[j]? = some v → Value.okWide Try.prog W .any base t v := hval0
  have hW' := hW
  obtain ⟨p, q, hA0, hV, rfl, hfz, hnd⟩ := hW
  have hA : DataW.TrodAll enc Try.prog W 0 (fun _ => true) true Try.f5.params.toList args.toList ds p := hA0
  rw [Try.params5] at hA hval
  obtain ⟨v0, vs0, d0, ds0, p0, q0, hargs, rfl, rfl, h0, r0⟩ := trodAll_cons hA
  obtain ⟨rfl, rfl, rfl⟩ := trodAll_nil r0
  obtain rfl : args = #[v0] := by cases args; simp_all
  obtain ⟨A, c, l, rfl, hf, hl, hc, hI⟩ := Law.open_nums Try.underlying34 Try.underlying3 (by kernel_rfl) (hval 0 34 v0 rfl rfl) h0
  refine (walk0 A c l hI W hf).mono fun e W' ⟨he, bel⟩ => ?_
  subst he
  exact ⟨_, rfl, Law.post_law laidOut (by kernel_rfl) (by kernel_rfl) Try.underlying4 rfl (fun ds h => by match ds, h with | [_], _ => rfl) hW' bel⟩

theorem proved : Rows.LatchRisesSaid :=
  OpenClaim.holds_of_wide 5 Try.f5 rfl rfl rfl rfl rfl rfl rfl ⟨rfl, rfl, rfl, rfl, rfl⟩ rfl rfl rfl rfl rfl (by kernel_rfl) Try.func5 (by kernel_rfl)
    (of_decide_eq_true (by kernel_rfl)) (by unfold Func.isWrapper; rw [if_neg (by decide +kernel)]; exact ⟨rfl, rfl⟩)
    (fun os started H enc _ => lifted os started H enc)
#print axioms proved
end Go.Proofs.Ytnbnhkijmlbefaa.latchRises
