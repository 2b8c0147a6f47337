/-
  TickAdds: whatever the two numbers and the time, the statement's function returns true, and the arguments read as before. No condition.
-/
import Derived.Test.YtfeifccfkcdohaaOpenTime
namespace Go.Proofs.Ytfeifccfkcdohaa.tickAdds
open Go.ChangeShapes Go.WideShapes Go.ChangeAt Go.RowKit
open Door

set_option maxHeartbeats 4000000 in
theorem walk (a b : Int) (n s : Int) (c : Bool) (w0 : U a) (w1 : U b) (wn : U n) (ws : U s) (w : World) :
    Calls Try.prog 3 #[.int .u64 a, .int .u64 b, Tick.T n s c] w fun e w' => e = .returned (.bool true) ∧ Below w.heap.size w w' := by
  have u1 := U1
  go_enter Try.func3, Try.ntmps3
  go_wp2_with (first
      | (go_at_call 9; refine (Tick.awake _).mono ?_; rintro e w' ⟨rfl, rfl⟩)
      | (go_at_call 10; refine (Tick.pass _ _ _ _ wn w1 _).mono ?_; rintro e w1' ⟨rfl, rfl⟩)
      | (go_at_call 11; refine (Tick.take _ _ _ ws _).mono ?_; rintro e w2' ⟨rfl, rfl⟩)
      | (go_at_call 12; refine (Tick.shut _ _ _ _).mono ?_; rintro e w3' ⟨rfl, rfl⟩))
  go_region
  all_goals
    go_wp2_with (first
      | (go_at_call 13; refine (Tick.refAdd _ _ (by assumption) (by assumption) _).mono ?_; rintro e w' ⟨rfl, rfl⟩)
      | (go_at_call 14; refine (Tick.add _ _ (by assumption) (by assumption) _).mono ?_; rintro e w' ⟨rfl, rfl⟩)
      | (go_at_call 15; refine (Tick.late _ _ _).mono ?_; rintro e w' ⟨rfl, rfl⟩))
  all_goals
    go_ret
    exact ⟨rfl, by repeat (first | exact Below.refl _ _ | refine Below.alloc ?_ (by first | exact Nat.le_refl _ | (simp only [World.size_alloc]; omega)) _ | refine Below.drew ?_)⟩

set_option maxRecDepth 100000 in
theorem lifted (os : Os) (started : os.Started) (H : Type) (enc : TypeId × Value → H) :
    ReturnsInHanded {} Try.checked os 3 .any (Rows.tickAddsSpec.pre6 enc Try.prog Try.f3 Rows.tickAddsRow.domain false) (Rows.tickAddsSpec.post enc Try.prog Try.f3 false true false false) := by
  refine returnsInHanded_of_change (C := Try.checked) own started (by kernel_rfl) Try.func3
    (ChangeSpec.witness6 (enc := enc) (C := Try.checked) false ⟨#[], #[.int .u64 0, .int .u64 0, Tick.T 0 0 false], []⟩ 8 (by kernel_rfl) (by kernel_rfl) (by kernel_rfl) (by kernel_rfl)) ?_
  intro W base args ds gs before hval0 hW hcnd _
  have hval : ∀ (j : Nat) t v, Try.f3.params[j]? = some t → args[j]? = some v → Value.okWide Try.prog W .any base t v := hval0
  have hW' := hW
  obtain ⟨p, q, hA0, hV, rfl, hfz, hnd⟩ := hW
  have hA : DataW.TrodAll enc Try.prog W 0 (fun _ => true) true Try.f3.params.toList args.toList ds p := hA0
  rw [Try.params3] at hA hval
  obtain ⟨v0, vs0, d0, ds0, p0, q0, hargs, rfl, rfl, h0, r0⟩ := trodAll_cons hA
  obtain ⟨v1, vs1, d1, ds1, p1, q1, rfl, rfl, rfl, h1, r1⟩ := trodAll_cons r0
  obtain ⟨v2, vs2, d2, ds2, p2, q2, rfl, rfl, rfl, h2, r2⟩ := trodAll_cons r1
  obtain ⟨rfl, rfl, rfl⟩ := trodAll_nil r2
  obtain rfl : args = #[v0, v1, v2] := by cases args; simp_all
  obtain ⟨a0, rfl, rfl, rfl, w0⟩ := open_int Try.underlying22 (hval 0 22 v0 rfl rfl) h0
  obtain ⟨a1, rfl, rfl, rfl, w1⟩ := open_int Try.underlying22 (hval 1 22 v1 rfl rfl) h1
  obtain ⟨n, s, c, rfl, wn, ws⟩ := open_time (hval 2 24 v2 rfl rfl) h2
  refine (walk a0 a1 n s c (ofwf w0) (ofwf w1) wn ws W).mono fun e W' ⟨he, bel⟩ => ?_
  subst he
  exact ⟨_, rfl, Law.post_law laidOut (by kernel_rfl) (by kernel_rfl) Try.underlying4 rfl (fun ds h => by match ds, h with | [_, _, _], _ => rfl) hW' bel⟩

theorem proved : Rows.TickAddsSaid :=
  OpenClaim.holds_of_wide 3 Try.f3 rfl rfl rfl rfl rfl rfl rfl ⟨rfl, rfl, rfl, rfl, rfl⟩ rfl rfl rfl rfl rfl (by kernel_rfl) Try.func3 (by kernel_rfl)
    (of_decide_eq_true (by kernel_rfl)) (by unfold Func.isWrapper; rw [if_neg (by decide +kernel)]; exact ⟨rfl, rfl⟩)
    (fun os started H enc _ => lifted os started H enc)
#print axioms proved
end Go.Proofs.Ytfeifccfkcdohaa.tickAdds
