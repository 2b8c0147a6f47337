/-
  HashStripes: whatever the users and the number, the statement's function returns true, and the arguments read as before. No condition.
-/
import Derived.Test.YteajkmanilfonaaHash03
namespace Go.Proofs.Yteajkmanilfonaa.hashStripes
open Go.ChangeShapes Go.WideShapes Go.ChangeAt Go.RowKit
open Door

set_option maxHeartbeats 1600000 in
theorem walk (us : List ByteArray) (A : Option Addr) (c : Nat) (n : Int) (hn : n ≤ 9223372036854775807) (w : World) (hs : Law.Seq w 0 w.heap.size A (us.map .string)) (hl : us.length ≤ maxLen) (hz : ∀ u ∈ us, u.size ≤ maxLen) :
    Calls Try.prog 4 #[.slice A us.length c, .int .i64 n] w fun e w' => e = .returned (.bool true) ∧ Below w.heap.size w w' := by
  have HZ := Lib.hid hz
  have HS := Lib.hid hs
  have HL := Lib.hid hl
  unfold maxLen at hl
  clear hz hs
  cases hb : Hash.longB us
  · have HB := Lib.hid hb
    clear hb
    go_enter Try.func4, Try.ntmps4
    go_wp2_with fail
    refine (Hash.awake _).mono ?_
    rintro e w' ⟨rfl, rfl⟩
    go_wp2_with fail
    refine (Hash.long us A c _ HS.out HL.out HZ.out).mono ?_
    rintro e w' ⟨rfl, rfl⟩
    rw [HB.out]
    go_wp2_with fail
    refine (Hash.hstripes us A c n hn _ HS.out HL.out HZ.out).mono ?_
    rintro e w1 ⟨A1, c1, rfl, h1, b1⟩
    have H1 := Lib.hid h1
    have B1 := Lib.hid b1
    have hz1 := b1.size
    clear h1 b1
    go_wp2_with fail
    refine (Hash.refStripes us A c n hn _ ((HS.out.below B1.out).more hz1) HL.out HZ.out).mono ?_
    rintro e w2 ⟨A2, c2, rfl, h2, b2⟩
    have H2 := Lib.hid h2
    have H1' := Lib.hid (H1.out.below b2)
    have B2 := Lib.hid (B1.out.trans (b2.mono hz1))
    clear h2 b2 H1
    have hq : (Hash.stripes us n).length ≤ 8 := Hash.upTo_len us n 8
    generalize Hash.stripes us n = zs at *
    go_wp2_with fail
    go_loopw [7] (fun i wr => ∃ k : Nat, k ≤ zs.length ∧ i = .int .i64 k ∧ ∃ d, wr = w2.drewN d) (fun i _ => zs.length - (intOf i).toNat)
    case atStart => exact ⟨0, Nat.zero_le _, rfl, 0, rfl⟩
    case round =>
      obtain ⟨k, hk, rfl, d, rfl⟩ := hrel
      by_cases hlt : k < zs.length
      · obtain ⟨g1, o1, rfl, _, l1, q1⟩ := H1'.out.int hlt
        obtain ⟨g2, o2, rfl, _, l2, q2⟩ := H2.out.int hlt
        go_wp2_with fail
        go_region
        go_wp2_with fail
        go_roundw
        case rel => exact ⟨k + 1, by omega, by go_num, d + 1, rfl⟩
        case measure => simp [intOf]; omega
      · go_wp2_with fail
        go_ret
        exact ⟨rfl, Law.below_drewN B2.out _⟩
  · have HB := Lib.hid hb
    clear hb
    go_enter Try.func4, Try.ntmps4
    go_wp2_with fail
    refine (Hash.awake _).mono ?_
    rintro e w' ⟨rfl, rfl⟩
    go_wp2_with fail
    refine (Hash.long us A c _ HS.out HL.out HZ.out).mono ?_
    rintro e w' ⟨rfl, rfl⟩
    rw [HB.out]
    go_wp2_with fail
    refine (Hash.awake _).mono ?_
    rintro e w' ⟨rfl, rfl⟩
    go_wp2_with fail
    go_ret
    exact ⟨rfl, Below.refl _ _⟩

set_option maxRecDepth 100000 in
theorem lifted (os : Os) (started : os.Started) (H : Type) (enc : TypeId × Value → H) :
    ReturnsInHanded {} Try.checked os 4 .any (Rows.hashStripesSpec.pre6 enc Try.prog Try.f4 Rows.hashStripesRow.domain false) (Rows.hashStripesSpec.post enc Try.prog Try.f4 false true false false) := by
  refine returnsInHanded_of_change (C := Try.checked) own started (by kernel_rfl) Try.func4
    (ChangeSpec.witness6 (enc := enc) (C := Try.checked) false ⟨#[], #[.slice none 0 0, .int .i64 0], []⟩ 8 (by kernel_rfl) (by kernel_rfl) (by kernel_rfl) (by kernel_rfl)) ?_
  intro W base args ds gs before hval0 hW hcnd _
  have hval : ∀ (j : Nat) t v, Try.f4.params[j]? = some t → args[j]? = some v → Value.okWide Try.prog W .any base t v := hval0
  have hW' := hW
  obtain ⟨p, q, hA0, hV, rfl, hfz, hnd⟩ := hW
  have hA : DataW.TrodAll enc Try.prog W 0 (fun _ => true) true Try.f4.params.toList args.toList ds p := hA0
  rw [Try.params4] at hA hval
  obtain ⟨v0, vs0, d0, ds0, p0, q0, hargs, rfl, rfl, h0, r0⟩ := trodAll_cons hA
  obtain ⟨v1, vs1, d1, ds1, p1, q1, rfl, rfl, rfl, h1, r1⟩ := trodAll_cons r0
  obtain ⟨rfl, rfl, rfl⟩ := trodAll_nil r1
  obtain rfl : args = #[v0, v1] := by cases args; simp_all
  obtain ⟨A, c, us, rfl, hs, hl, hc, hz⟩ := Law.open_texts Try.underlying28 Try.underlying9 (by kernel_rfl) (hval 0 28 v0 rfl rfl) h0
  obtain ⟨a1, rfl, rfl, rfl, w1⟩ := open_int Try.underlying3 (hval 1 3 v1 rfl rfl) h1
  refine (walk us A c a1 (bounds_i64 w1).2 W hs hl hz).mono fun e W' ⟨he, bel⟩ => ?_
  subst he
  exact ⟨_, rfl, Law.post_law laidOut (by kernel_rfl) (by kernel_rfl) Try.underlying4 rfl (fun ds h => by match ds, h with | [_, _], _ => rfl) hW' bel⟩

theorem proved : Rows.HashStripesSaid :=
  OpenClaim.holds_of_wide 4 Try.f4 rfl rfl rfl rfl rfl rfl rfl ⟨rfl, rfl, rfl, rfl, rfl⟩ rfl rfl rfl rfl rfl (by kernel_rfl) Try.func4 (by kernel_rfl)
    (of_decide_eq_true (by kernel_rfl)) (by unfold Func.isWrapper; rw [if_neg (by decide +kernel)]; exact ⟨rfl, rfl⟩)
    (fun os started H enc _ => lifted os started H enc)
#print axioms proved
end Go.Proofs.Yteajkmanilfonaa.hashStripes
