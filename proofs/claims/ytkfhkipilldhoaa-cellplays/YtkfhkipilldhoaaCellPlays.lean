/-
  CellPlays: whatever the bound and the acts, the statement's function returns true, and the arguments read as before. No condition.
-/
import Derived.Test.YtkfhkipilldhoaaCell02
import Derived.Test.YtkfhkipilldhoaaBools
namespace Go.Proofs.Ytkfhkipilldhoaa.cellPlays
open Go.ChangeShapes Go.WideShapes Go.ChangeAt Go.RowKit
open Door Go.Proofs.Ytkfhkipilldhoaa.Cell

set_option maxRecDepth 100000 in
set_option maxHeartbeats 3200000 in
theorem walk (b : Int) (A : Option Addr) (n c : Nat) (f : Nat → Bool) (hb : U b) (hn : n ≤ 400) (w : World) (hf : Law.Flags w w.heap.size A n f) :
    Calls Try.prog 3 #[.int .u64 b, .slice A n c] w fun e w' => e = .returned (.bool true) ∧ Below w.heap.size w w' := by
  have d0 : decide (400 < (n : Int)) = false := by simp; omega
  have HO := Lib.hid (Ok.new hb)
  have HF := Lib.hid hf
  clear hf
  go_enter Try.func3, Try.ntmps3
  go_wp2_with fail
  refine (awake w).mono ?_
  rintro e w1 ⟨rfl, b1⟩
  have HB := Lib.hid b1
  clear b1
  go_wp2_with fail
  refine (new b hb _).mono ?_
  rintro e w2 ⟨rfl, b2⟩
  have H2 := Lib.hid (Has.new 0 (ev b) (HB.out.trans (b2.mono HB.out.size)))
  clear b2 HB
  generalize hBB : ev b = B at *
  have HBB := Lib.hid hBB
  clear hBB
  go_wp2_with fail
  generalize w2.alloc (C 0 B) = w3 at *
  generalize w2.heap.size = g at *
  go_loopw [6, 7] (fun v i wr => ∃ (k : Nat) (x : Int), k ≤ n ∧ i = .int .i64 k ∧ v = .int .u64 x ∧ Ok x B ∧ Has w g x B wr) (fun _ i _ => n - (intOf i).toNat)
  case atStart => exact ⟨0, 0, Nat.zero_le _, rfl, rfl, HO.out, H2.out⟩
  case round =>
    clear HO H2
    obtain ⟨k, x, hk, rfl, rfl, hO, hH⟩ := hrel
    have HO := Lib.hid hO
    have HH := Lib.hid hH
    clear hO hH
    have c0 := HH.out.c0
    have c1 := HH.out.c1
    have l0 := HH.out.lt
    by_cases hlt : k < n
    · obtain ⟨p, off, rfl, hp, q⟩ := (HF.out.below HH.out.below).at hlt
      cases hfk : f k with
      | true =>
        rw [hfk] at q
        have hy := Lib.hid (beg_ok HO.out)
        go_wp2_with fail
        refine (begin_ x B HO.out _).mono ?_
        rintro e w4 ⟨rfl, b4⟩
        have H4 := Lib.hid (HH.out.next b4)
        have c0 := H4.out.c0
        have c1 := H4.out.c1
        have l0 := H4.out.lt
        have f0 := H4.out.is.frozen 0
        have f1 := H4.out.is.frozen 1
        clear b4 HH
        go_wp2_with fail
        refine (HBB.out ▸ refBegin x b hb (HBB.out.symm ▸ HO.out) _).mono ?_
        rintro e w5 ⟨rfl, rfl⟩
        have HP := Lib.hid (H4.out.put (beg x B) B)
        generalize beg x B = y at *
        go_wp2_with fail
        generalize (w4.setCell ⟨g, 0, none⟩ (.int .u64 y)).setCell ⟨g, 1, none⟩ (.int .u64 B) = w5 at *
        clear c0 c1 l0 f0 f1 H4
        have c0 := HP.out.c0
        have c1 := HP.out.c1
        have l0 := HP.out.lt
        refine (value y B _).mono ?_
        rintro e w6 ⟨rfl, b6⟩
        have H6 := Lib.hid (HP.out.next b6)
        clear b6 HP c0 c1 l0
        have c0 := H6.out.c0
        have c1 := H6.out.c1
        have l0 := H6.out.lt
        have d2 : (y != y) = false := by simp
        have d3 : decide (B ≤ y) = (y == B) := by have := hy.out.le; rw [Bool.eq_iff_iff]; simp; omega
        have d4 : (y.tmod 2 == 1) = (y % 2 == 1) := by rw [tmod2 hy.out.U]
        generalize hr : (y == B) = r at *
        have HR := Lib.hid hr
        generalize ht : (y % 2 == 1) = t at *
        have HT := Lib.hid ht
        clear hr ht
        have d5 : (r != r) = false := by simp
        have d6 : (t != t) = false := by simp
        go_wp2_with fail
        refine (spent1 y B r HR.out _).mono ?_
        rintro e w7 ⟨rfl, b7⟩
        have H7 := Lib.hid (H6.out.next b7)
        clear b7 H6 c0 c1 l0
        have c0 := H7.out.c0
        have c1 := H7.out.c1
        have l0 := H7.out.lt
        go_wp2_with fail
        refine (refBound b hb _).mono ?_
        rintro e w8 ⟨rfl, rfl⟩
        rw [HBB.out]
        go_wp2_with fail
        refine (writing1 y B t hy.out.U HT.out _).mono ?_
        rintro e w9 ⟨rfl, b9⟩
        have H9 := Lib.hid (H7.out.next b9)
        clear b9 H7 c0 c1 l0
        go_wp2_with fail
        go_roundw
        case rel => exact ⟨k + 1, y, by omega, by go_num, rfl, hy.out, H9.out⟩
        case measure => simp [intOf]; omega
      | false =>
        rw [hfk] at q
        have hy := Lib.hid (fin_ok HO.out)
        go_wp2_with fail
        refine (end_ x B HO.out _).mono ?_
        rintro e w4 ⟨rfl, b4⟩
        have H4 := Lib.hid (HH.out.next b4)
        have c0 := H4.out.c0
        have c1 := H4.out.c1
        have l0 := H4.out.lt
        have f0 := H4.out.is.frozen 0
        have f1 := H4.out.is.frozen 1
        clear b4 HH
        go_wp2_with fail
        refine (refEnd x B HO.out _).mono ?_
        rintro e w5 ⟨rfl, rfl⟩
        have HP := Lib.hid (H4.out.put (fin x) B)
        generalize fin x = y at *
        go_wp2_with fail
        generalize (w4.setCell ⟨g, 0, none⟩ (.int .u64 y)).setCell ⟨g, 1, none⟩ (.int .u64 B) = w5 at *
        clear c0 c1 l0 f0 f1 H4
        have c0 := HP.out.c0
        have c1 := HP.out.c1
        have l0 := HP.out.lt
        refine (value y B _).mono ?_
        rintro e w6 ⟨rfl, b6⟩
        have H6 := Lib.hid (HP.out.next b6)
        clear b6 HP c0 c1 l0
        have c0 := H6.out.c0
        have c1 := H6.out.c1
        have l0 := H6.out.lt
        have d2 : (y != y) = false := by simp
        have d3 : decide (B ≤ y) = (y == B) := by have := hy.out.le; rw [Bool.eq_iff_iff]; simp; omega
        have d4 : (y.tmod 2 == 1) = (y % 2 == 1) := by rw [tmod2 hy.out.U]
        generalize hr : (y == B) = r at *
        have HR := Lib.hid hr
        generalize ht : (y % 2 == 1) = t at *
        have HT := Lib.hid ht
        clear hr ht
        have d5 : (r != r) = false := by simp
        have d6 : (t != t) = false := by simp
        go_wp2_with fail
        refine (spent1 y B r HR.out _).mono ?_
        rintro e w7 ⟨rfl, b7⟩
        have H7 := Lib.hid (H6.out.next b7)
        clear b7 H6 c0 c1 l0
        have c0 := H7.out.c0
        have c1 := H7.out.c1
        have l0 := H7.out.lt
        go_wp2_with fail
        refine (refBound b hb _).mono ?_
        rintro e w8 ⟨rfl, rfl⟩
        rw [HBB.out]
        go_wp2_with fail
        refine (writing1 y B t hy.out.U HT.out _).mono ?_
        rintro e w9 ⟨rfl, b9⟩
        have H9 := Lib.hid (H7.out.next b9)
        clear b9 H7 c0 c1 l0
        go_wp2_with fail
        go_roundw
        case rel => exact ⟨k + 1, y, by omega, by go_num, rfl, hy.out, H9.out⟩
        case measure => simp [intOf]; omega
    · go_wp2_with fail
      go_ret
      exact ⟨rfl, HH.out.below⟩

theorem walkLong (b : Int) (A : Option Addr) (n c : Nat) (hn : 400 < n) (w : World) :
    Calls Try.prog 3 #[.int .u64 b, .slice A n c] w fun e w' => e = .returned (.bool true) ∧ Below w.heap.size w w' := by
  have d0 : decide (400 < (n : Int)) = true := by simp; omega
  go_enter Try.func3, Try.ntmps3
  go_wp2_with fail
  refine (awake w).mono ?_
  rintro e w1 ⟨rfl, b1⟩
  have HB := Lib.hid b1
  clear b1
  go_wp2_with fail
  refine (awake _).mono ?_
  rintro e w2 ⟨rfl, b2⟩
  have HB2 := Lib.hid (HB.out.trans (b2.mono HB.out.size))
  clear b2
  go_wp2_with fail
  go_ret
  exact ⟨rfl, HB2.out⟩

theorem walk0 (b : Int) (A : Option Addr) (n c : Nat) (f : Nat → Bool) (hb : U b) (w : World) (hf : Law.Flags w w.heap.size A n f) :
    Calls Try.prog 3 #[.int .u64 b, .slice A n c] w fun e w' => e = .returned (.bool true) ∧ Below w.heap.size w w' := by
  by_cases h : n ≤ 400
  · exact walk b A n c f hb h w hf
  · exact walkLong b A n c (by omega) w

set_option maxRecDepth 100000 in
theorem lifted (os : Os) (started : os.Started) (H : Type) (enc : TypeId × Value → H) :
    ReturnsInHanded {} Try.checked os 3 .any (Rows.cellPlaysSpec.pre6 enc Try.prog Try.f3 Rows.cellPlaysRow.domain false) (Rows.cellPlaysSpec.post enc Try.prog Try.f3 false true false false) := by
  refine returnsInHanded_of_change (C := Try.checked) own started (by kernel_rfl) Try.func3
    (ChangeSpec.witness6 (enc := enc) (C := Try.checked) false ⟨#[], #[.int .u64 0, .slice none 0 0], []⟩ 8 (by kernel_rfl) (by kernel_rfl) (by kernel_rfl) (by kernel_rfl)) ?_
  intro W base args ds gs before hval0 hW hcnd _
  have hval : ∀ (j : Nat) t v, Try.f3.params[j]? = some t → args[j]? = some v → Value.okWide Try.prog W .any base t v := hval0
  have hW' := hW
  obtain ⟨p, q, hA0, hV, rfl, hfz, hnd⟩ := hW
  have hA : DataW.TrodAll enc Try.prog W 0 (fun _ => true) true Try.f3.params.toList args.toList ds p := hA0
  rw [Try.params3] at hA hval
  obtain ⟨v0, vs0, d0, ds0, p0, q0, hargs, rfl, rfl, h0, r0⟩ := trodAll_cons hA
  obtain ⟨v1, vs1, d1, ds1, p1, q1, rfl, rfl, rfl, h1, r1⟩ := trodAll_cons r0
  obtain ⟨rfl, rfl, rfl⟩ := trodAll_nil r1
  obtain rfl : args = #[v0, v1] := by cases args; simp_all
  obtain ⟨a0, rfl, rfl, rfl, w0⟩ := open_int Try.underlying22 (hval 0 22 v0 rfl rfl) h0
  obtain ⟨A, n, c, f, rfl, hf⟩ := Law.open_flags Try.underlying23 Try.underlying4 (by kernel_rfl) (hval 1 23 v1 rfl rfl) h1
  refine (walk0 a0 A n c f (ofwf w0) W hf).mono fun e W' ⟨he, bel⟩ => ?_
  subst he
  exact ⟨_, rfl, Law.post_law laidOut (by kernel_rfl) (by kernel_rfl) Try.underlying4 rfl (fun ds h => by match ds, h with | [_, _], _ => rfl) hW' bel⟩

theorem proved : Rows.CellPlaysSaid :=
  OpenClaim.holds_of_wide 3 Try.f3 rfl rfl rfl rfl rfl rfl rfl ⟨rfl, rfl, rfl, rfl, rfl⟩ rfl rfl rfl rfl rfl (by kernel_rfl) Try.func3 (by kernel_rfl)
    (of_decide_eq_true (by kernel_rfl)) (by unfold Func.isWrapper; rw [if_neg (by decide +kernel)]; exact ⟨rfl, rfl⟩)
    (fun os started H enc _ => lifted os started H enc)
#print axioms proved
end Go.Proofs.Ytkfhkipilldhoaa.cellPlays
