/-
  CellPairs: whatever the bound and the number, the statement's function returns true, and the arguments read as before. No condition.
-/
import Derived.Test.YtkfhkipilldhoaaCell02
namespace Go.Proofs.Ytkfhkipilldhoaa.cellPairs
open Go.ChangeShapes Go.WideShapes Go.ChangeAt Go.RowKit
open Door Go.Proofs.Ytkfhkipilldhoaa.Cell

/-- a writing more -/
theorem pair {B : Int} (j : Nat) (hB : B % 2 = 0) : fin (beg (min (2 * (j : Int)) B) B) = min (2 * ((j + 1 : Nat) : Int)) B := by
  unfold fin beg
  repeat' split
  all_goals omega
theorem ok {B : Int} (j : Nat) (hB : B % 2 = 0) (h0 : 0 ≤ B) (ht : B ≤ top) : Ok (min (2 * (j : Int)) B) B := ⟨by omega, by omega, ht, hB⟩

set_option maxRecDepth 100000 in
set_option maxHeartbeats 1600000 in
theorem walk (b : Int) (n : Nat) (hb : U b) (hn : n ≤ 255) (w : World) :
    Calls Try.prog 7 #[.int .u64 b, .int .u8 (n : Int)] w fun e w' => e = .returned (.bool true) ∧ Below w.heap.size w w' := by
  have hE := ev_U hb
  have HE := Lib.hid (ev_mod b)
  have HU := Lib.hid hE
  clear hE
  go_enter Try.func7, Try.ntmps7
  go_wp2_with fail
  refine (awake w).mono ?_
  rintro e w1 ⟨rfl, b1⟩
  have HB := Lib.hid b1
  clear b1
  go_wp2_with fail
  refine (new b hb _).mono ?_
  rintro e w2 ⟨rfl, b2⟩
  have H2 := Lib.hid (Has.new 0 (ev b) (HB.out.trans (b2.mono HB.out.size)))
  clear b2 HB
  have HW := Lib.hid (wrapE hb)
  generalize ev b = B at *
  go_wp2_with fail
  generalize w2.alloc (C 0 B) = w3 at *
  generalize w2.heap.size = g at *
  go_loopw [6] (fun i wr => ∃ k : Nat, k ≤ n ∧ i = .int .i64 k ∧ Has w g (min (2 * (k : Int)) B) B wr) (fun i _ => n - (intOf i).toNat)
  case atStart => exact ⟨0, Nat.zero_le _, rfl, by have := H2.out; have e : min (2 * ((0 : Nat) : Int)) B = 0 := by { have := HU.out.1; omega }
                                                   rw [e]; exact this⟩
  case round =>
    obtain ⟨k, hk, rfl, hH⟩ := hrel
    have HH := Lib.hid hH
    clear hH
    have c0 := HH.out.c0
    have c1 := HH.out.c1
    have l0 := HH.out.lt
    have f0 := HH.out.is.frozen 0
    have f1 := HH.out.is.frozen 1
    by_cases hlt : k < n
    · have HP := Lib.hid (pair (B := B) k HE.out)
      have HO := Lib.hid (ok (B := B) k HE.out HU.out.1 HU.out.2)
      generalize min (2 * (k : Int)) B = v at *
      generalize hr : min (2 * ((k + 1 : Nat) : Int)) B = r at *
      have HR := Lib.hid hr
      clear hr
      go_wp2_with fail
      refine (begin_ v B HO.out _).mono ?_
      rintro e w4 ⟨rfl, b4⟩
      have H4 := Lib.hid (HH.out.next b4)
      clear b4 HH c0 c1 l0 f0 f1
      go_wp2_with fail
      refine (end1 (beg v B) B r (beg_ok HO.out) HP.out _).mono ?_
      rintro e w5 ⟨rfl, b5⟩
      have H5 := Lib.hid (H4.out.next b5)
      clear b5 H4
      have c0 := H5.out.c0
      have c1 := H5.out.c1
      have l0 := H5.out.lt
      have f0 := H5.out.is.frozen 0
      have f1 := H5.out.is.frozen 1
      go_wp2_with fail
      go_roundw
      case rel => exact ⟨k + 1, by omega, by go_num, by rw [HR.out]; exact H5.out.put _ _⟩
      case measure => simp [intOf]; omega
    · obtain rfl : k = n := by omega
      have HO := Lib.hid (ok (B := B) k HE.out HU.out.1 HU.out.2)
      have hm : min (2 * (k : Int)) B % 2 = 0 := by have := HE.out; omega
      have h2 : IntKind.u64.wrap (2 * (k : Int)) = 2 * (k : Int) := by rw [IntKind.wrap_u64]; omega
      have hw := HW.out
      by_cases hd : B < 2 * (k : Int)
      · have e : min (2 * (k : Int)) B = B := by omega
        rw [e] at c0 HH HO hm
        clear e
        have d2 : decide (B < 2 * (k : Int)) = true := by simpa using hd
        have d3 : (B == B) = true := by simp
        go_wp2_with fail
        refine (value B B _).mono ?_
        rintro e w4 ⟨rfl, b4⟩
        have H4 := Lib.hid (HH.out.next b4)
        clear b4 HH c0 c1 l0 f0 f1
        have c0 := H4.out.c0
        have c1 := H4.out.c1
        have l0 := H4.out.lt
        go_wp2_with fail
        refine (writing1 B B false HO.out.U (by rw [hm]; rfl) _).mono ?_
        rintro e w5 ⟨rfl, b5⟩
        have H5 := Lib.hid (H4.out.next b5)
        clear b5 H4 c0 c1 l0
        go_wp2_with fail
        go_ret
        exact ⟨rfl, H5.out.below⟩
      · have e : min (2 * (k : Int)) B = 2 * (k : Int) := by omega
        rw [e] at c0 HH HO hm
        clear e
        have d2 : decide (B < 2 * (k : Int)) = false := by simpa using hd
        have d3 : (2 * (k : Int) == 2 * (k : Int)) = true := by simp
        go_wp2_with fail
        refine (value (2 * (k : Int)) B _).mono ?_
        rintro e w4 ⟨rfl, b4⟩
        have H4 := Lib.hid (HH.out.next b4)
        clear b4 HH c0 c1 l0 f0 f1
        have c0 := H4.out.c0
        have c1 := H4.out.c1
        have l0 := H4.out.lt
        go_wp2_with fail
        refine (writing1 (2 * (k : Int)) B false HO.out.U (by rw [hm]; rfl) _).mono ?_
        rintro e w5 ⟨rfl, b5⟩
        have H5 := Lib.hid (H4.out.next b5)
        clear b5 H4 c0 c1 l0
        go_wp2_with fail
        go_ret
        exact ⟨rfl, H5.out.below⟩

theorem walk0 (b n : Int) (hb : U b) (hn : (Lit.int .u8 n).wf = true) (w : World) :
    Calls Try.prog 7 #[.int .u64 b, .int .u8 n] w fun e w' => e = .returned (.bool true) ∧ Below w.heap.size w w' := by
  have := bounds_u8 hn
  obtain ⟨k, rfl⟩ := Int.eq_ofNat_of_zero_le this.1
  exact walk b k hb (by omega) w

set_option maxRecDepth 100000 in
theorem lifted (os : Os) (started : os.Started) (H : Type) (enc : TypeId × Value → H) :
    ReturnsInHanded {} Try.checked os 7 .any (Rows.cellPairsSpec.pre6 enc Try.prog Try.f7 Rows.cellPairsRow.domain false) (Rows.cellPairsSpec.post enc Try.prog Try.f7 false true false false) := by
  refine returnsInHanded_of_change (C := Try.checked) own started (by kernel_rfl) Try.func7
    (ChangeSpec.witness6 (enc := enc) (C := Try.checked) false ⟨#[], #[.int .u64 0, .int .u8 0], []⟩ 8 (by kernel_rfl) (by kernel_rfl) (by kernel_rfl) (by kernel_rfl)) ?_
  intro W base args ds gs before hval0 hW hcnd _
  have hval : ∀ (j : Nat) t v, Try.f7.params[j]? = some t → args[j]? = some v → Value.okWide Try.prog W .any base t v := hval0
  have hW' := hW
  obtain ⟨p, q, hA0, hV, rfl, hfz, hnd⟩ := hW
  have hA : DataW.TrodAll enc Try.prog W 0 (fun _ => true) true Try.f7.params.toList args.toList ds p := hA0
  rw [Try.params7] at hA hval
  obtain ⟨v0, vs0, d0, ds0, p0, q0, hargs, rfl, rfl, h0, r0⟩ := trodAll_cons hA
  obtain ⟨v1, vs1, d1, ds1, p1, q1, rfl, rfl, rfl, h1, r1⟩ := trodAll_cons r0
  obtain ⟨rfl, rfl, rfl⟩ := trodAll_nil r1
  obtain rfl : args = #[v0, v1] := by cases args; simp_all
  obtain ⟨a0, rfl, rfl, rfl, w0⟩ := open_int Try.underlying22 (hval 0 22 v0 rfl rfl) h0
  obtain ⟨a1, rfl, rfl, rfl, w1⟩ := open_int Try.underlying5 (hval 1 5 v1 rfl rfl) h1
  refine (walk0 a0 a1 (ofwf w0) w1 W).mono fun e W' ⟨he, bel⟩ => ?_
  subst he
  exact ⟨_, rfl, Law.post_law laidOut (by kernel_rfl) (by kernel_rfl) Try.underlying4 rfl (fun ds h => by match ds, h with | [_, _], _ => rfl) hW' bel⟩

theorem proved : Rows.CellPairsSaid :=
  OpenClaim.holds_of_wide 7 Try.f7 rfl rfl rfl rfl rfl rfl rfl ⟨rfl, rfl, rfl, rfl, rfl⟩ rfl rfl rfl rfl rfl (by kernel_rfl) Try.func7 (by kernel_rfl)
    (of_decide_eq_true (by kernel_rfl)) (by unfold Func.isWrapper; rw [if_neg (by decide +kernel)]; exact ⟨rfl, rfl⟩)
    (fun os started H enc _ => lifted os started H enc)
#print axioms proved
end Go.Proofs.Ytkfhkipilldhoaa.cellPairs
