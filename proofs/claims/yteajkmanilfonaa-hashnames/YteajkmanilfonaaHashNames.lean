/-
  HashNames: whatever the text and the number, the statement's function returns true, and the arguments read as before. No condition.
-/
import Derived.Test.YteajkmanilfonaaHash01
namespace Go.Proofs.Yteajkmanilfonaa.hashNames
open Go.ChangeShapes Go.WideShapes Go.ChangeAt Go.RowKit
open Door

set_option maxHeartbeats 400000 in
theorem walk (s : ByteArray) (r : Nat) (hr : r ≤ 255) (hs : s.size ≤ maxLen) (w : World) :
    Calls Try.prog 7 #[.string s, .int .u8 (r : Int)] w fun e w' => e = .returned (.bool true) ∧ Below w.heap.size w w' := by
  have hs' := Lib.hid hs
  unfold maxLen at hs
  by_cases hl : 400 < s.size
  · go_enter Try.func7, Try.ntmps7
    go_wp2_with (go_at_call 9; refine (Hash.awake _).mono ?_; rintro e w' ⟨rfl, rfl⟩)
    go_ret
    exact ⟨rfl, Below.refl _ _⟩
  · have ez : Hash.okLen (ByteArray.mk #[]).size = false := rfl
    have e0 := Hash.stripe_lt s.data.toList (n := 1) (by omega)
    have e1 : Hid (Hash.stripe s.data.toList 1 = 0) := by show _ = _; omega
    clear e0
    by_cases h0 : 0 < s.size
    · have hm : r % s.size < s.size := Nat.mod_lt _ h0
      have hq : (r : Int) % (s.size : Int) = ((r % s.size : Nat) : Int) := by simp
      generalize r % s.size = q at hm hq
      go_enter Try.func7, Try.ntmps7
      go_wp2_with fail
      refine (Hash.awake _).mono ?_
      rintro e w' ⟨rfl, rfl⟩
      go_wp2_with fail
      refine (Hash.right _ _ (by decide)).mono ?_
      rintro e w' ⟨rfl, rfl⟩
      rw [ez]
      go_wp2_with fail
      refine (Hash.right _ _ hs'.out).mono ?_
      rintro e w' ⟨rfl, rfl⟩
      have hx : Hash.okLen s.size = decide (1 ≤ s.size ∧ s.size ≤ 16) := rfl
      by_cases h2 : s.size < 17
      · have e2 : Hash.okLen s.size = true := by rw [hx]; simp; omega
        clear hx
        rw [e2]
        clear e2
        by_cases h3 : q = 0
        · subst h3
          go_wp2_with fail
          refine (Hash.hstripe _ _ _ hs'.out (by omega)).mono ?_
          rintro e w' ⟨rfl, rfl⟩
          rw [e1.out]
          go_wp2_with fail
          go_ret
          exact ⟨rfl, Below.refl _ _⟩
        · have h4 : ((q : Int) == 0) = false := by simp; omega
          go_wp2_with fail
          have hz : (s.extract 0 q).size = q := by simp; omega
          have hz' := Lib.hid hz
          clear hz
          refine (Hash.right _ _ (by rw [hz'.out]; unfold maxLen; omega)).mono ?_
          rintro e w' ⟨rfl, rfl⟩
          rw [hz'.out, show Hash.okLen q = true from by unfold Hash.okLen; simp; omega]
          go_wp2_with fail
          refine (Hash.hstripe _ _ _ hs'.out (by omega)).mono ?_
          rintro e w' ⟨rfl, rfl⟩
          rw [e1.out]
          go_wp2_with fail
          go_ret
          exact ⟨rfl, Below.refl _ _⟩
      · have e2 : Hash.okLen s.size = false := by rw [hx]; simp; omega
        clear hx
        rw [e2]
        clear e2
        go_wp2_with fail
        refine (Hash.hstripe _ _ _ hs'.out (by omega)).mono ?_
        rintro e w' ⟨rfl, rfl⟩
        rw [e1.out]
        go_wp2_with fail
        go_ret
        exact ⟨rfl, Below.refl _ _⟩
    · go_enter Try.func7, Try.ntmps7
      go_wp2_with fail
      refine (Hash.awake _).mono ?_
      rintro e w' ⟨rfl, rfl⟩
      go_wp2_with fail
      refine (Hash.right _ _ (by decide)).mono ?_
      rintro e w' ⟨rfl, rfl⟩
      rw [ez]
      go_wp2_with fail
      refine (Hash.right _ _ hs'.out).mono ?_
      rintro e w' ⟨rfl, rfl⟩
      have e2 : Hash.okLen s.size = false := by unfold Hash.okLen; simp; omega
      rw [e2]
      clear e2
      go_wp2_with fail
      refine (Hash.hstripe _ _ _ hs'.out (by omega)).mono ?_
      rintro e w' ⟨rfl, rfl⟩
      rw [e1.out]
      go_wp2_with fail
      go_ret
      exact ⟨rfl, Below.refl _ _⟩

theorem walk0 (s : ByteArray) (r : Int) (hr : (Lit.int .u8 r).wf = true) (hs : s.size ≤ maxLen) (w : World) :
    Calls Try.prog 7 #[.string s, .int .u8 r] w fun e w' => e = .returned (.bool true) ∧ Below w.heap.size w w' := by
  have := bounds_u8 hr
  obtain ⟨k, rfl⟩ := Int.eq_ofNat_of_zero_le this.1
  exact walk s k (by omega) hs w

set_option maxRecDepth 100000 in
theorem lifted (os : Os) (started : os.Started) (H : Type) (enc : TypeId × Value → H) :
    ReturnsInHanded {} Try.checked os 7 .any (Rows.hashNamesSpec.pre6 enc Try.prog Try.f7 Rows.hashNamesRow.domain false) (Rows.hashNamesSpec.post enc Try.prog Try.f7 false true false false) := by
  refine returnsInHanded_of_change (C := Try.checked) own started (by kernel_rfl) Try.func7
    (ChangeSpec.witness6 (enc := enc) (C := Try.checked) false ⟨#[], #[.string ⟨#[]⟩, .int .u8 0], []⟩ 8 (by kernel_rfl) (by kernel_rfl) (by kernel_rfl) (by kernel_rfl)) ?_
  intro W base args ds gs before hval0 hW hcnd _
  have hval : ∀ (j : Nat) t v, Try.f7.params[j]? = some t → args[j]? = some v → Value.okWide Try.prog W .any base t v := hval0
  have hW' := hW
  obtain ⟨p, q, hA0, hV, rfl, hfz, hnd⟩ := hW
  have hA : DataW.TrodAll enc Try.prog W 0 (fun _ => true) true Try.f7.params.toList args.toList ds p := hA0
  rw [Try.params7] at hA hval
  obtain ⟨v0, vs0, d0, ds0, p0, q0, hargs, rfl, rfl, h0, r0⟩ := trodAll_cons hA
  obtain ⟨v1, vs1, d1, ds1, p1, q1, rfl, rfl, rfl, h1, r1⟩ := trodAll_cons r0
  obtain ⟨rfl, rfl, rfl⟩ := trodAll_nil r1
  obtain rfl : args = #[v0, v1] := by cases args; simp_all
  obtain ⟨a0, rfl, rfl, rfl, w0⟩ := Go.ChangeMaps.open_string Try.underlying9 (hval 0 9 v0 rfl rfl) h0
  obtain ⟨a1, rfl, rfl, rfl, w1⟩ := open_int Try.underlying5 (hval 1 5 v1 rfl rfl) h1
  refine (walk0 a0 a1 w1 w0 W).mono fun e W' ⟨he, bel⟩ => ?_
  subst he
  exact ⟨_, rfl, Law.post_law laidOut (by kernel_rfl) (by kernel_rfl) Try.underlying4 rfl (fun ds h => by match ds, h with | [_, _], _ => rfl) hW' bel⟩

theorem proved : Rows.HashNamesSaid :=
  OpenClaim.holds_of_wide 7 Try.f7 rfl rfl rfl rfl rfl rfl rfl ⟨rfl, rfl, rfl, rfl, rfl⟩ rfl rfl rfl rfl rfl (by kernel_rfl) Try.func7 (by kernel_rfl)
    (of_decide_eq_true (by kernel_rfl)) (by unfold Func.isWrapper; rw [if_neg (by decide +kernel)]; exact ⟨rfl, rfl⟩)
    (fun os started H enc _ => lifted os started H enc)
#print axioms proved
end Go.Proofs.Yteajkmanilfonaa.hashNames
