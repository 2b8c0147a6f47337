/-
  CellRises: whatever the bound and the acts, the statement's function returns true, and the arguments read as before. No condition.
-/
import Derived.Test.YtkfhkipilldhoaaCell02
import Derived.Test.YtkfhkipilldhoaaBools
import Derived.Lib.QuietBelow
namespace Go.Proofs.Ytkfhkipilldhoaa.cellRises
open Go.ChangeShapes Go.WideShapes Go.ChangeAt Go.RowKit
open Door Go.Proofs.Ytkfhkipilldhoaa.Cell

theorem beg_up (x B : Int) : x ≤ beg x B ∧ beg x B ≤ x + 1 := by unfold beg; split <;> omega
theorem fin_up (x : Int) : x ≤ fin x ∧ fin x ≤ x + 1 := by unfold fin; split <;> omega
theorem fin_even (x : Int) : (fin x % 2 == 1) = false := by simp; unfold fin; split <;> omega
theorem wrap_sub {x y : Int} (h1 : x ≤ y) (h2 : y ≤ x + 1) : decide (1 < IntKind.u64.wrap (y - x)) = false := by rw [IntKind.wrap_u64]; simp; omega

set_option maxRecDepth 100000 in
set_option maxHeartbeats 3200000 in
theorem walk (b : Int) (A : Option Addr) (n c : Nat) (f : Nat → Bool) (hb : U b) (hn : n ≤ 400) (w : World) (hf : Law.Flags w w.heap.size A n f) :
    Calls Try.prog 6 #[.int .u64 b, .slice A n c] w fun e w' => e = .returned (.bool true) ∧ Below w.heap.size w w' := by
  have d0 : decide (400 < (n : Int)) = false := by simp; omega
  have HO := Lib.hid (Ok.new hb)
  have HF := Lib.hid hf
  have HL := Lib.hid (ev_le b)
  clear hf
  go_enter Try.func6, Try.ntmps6
  go_wp2_with fail
  refine (awake w).mono ?_
  rintro e w1 ⟨rfl, b1⟩
  have HB := Lib.hid b1
  clear b1
  go_wp2_with fail
  refine (new b hb _).mono ?_
  rintro e w2 ⟨rfl, b2⟩
  have H2 := Lib.hid (Has.new 0 (ev b) (HB.out.trans (b2.mono HB.out.size)))
  clear b2 HB
  generalize ev b = B at *
  go_wp2_with fail
  generalize w2.alloc (C 0 B) = w3 at *
  generalize w2.heap.size = g at *
  go_loopw [6] (fun i wr => ∃ (k : Nat) (x : Int), k ≤ n ∧ i = .int .i64 k ∧ Ok x B ∧ Has w g x B wr) (fun i _ => n - (intOf i).toNat)
  case atStart => exact ⟨0, 0, Nat.zero_le _, rfl, HO.out, H2.out⟩
  case round =>
    clear HO H2
    obtain ⟨k, x, hk, rfl, hO, hH⟩ := hrel
    have HO := Lib.hid hO
    have HH := Lib.hid hH
    clear hO hH
    have c0 := HH.out.c0
    have c1 := HH.out.c1
    have l0 := HH.out.lt
    by_cases hlt : k < n
    · obtain ⟨p, off, rfl, hp, q⟩ := (HF.out.below HH.out.below).at hlt
      have hyf := Lib.hid (fin_ok HO.out)
      have huf := fin_up x
      have hef := fin_even x
      go_wp2_with fail
      refine (end_ x B HO.out _).mono ?_
      rintro e w4 ⟨rfl, b4⟩
      have H4 := Lib.hid ((HH.out.next b4).next (one _ (C (fin x) B)))
      have D4 := Lib.hid (Has.new (fin x) B (HH.out.next b4).below)
      have hne : g ≠ w4.heap.size := by have := (HH.out.next b4).lt; omega
      clear b4 HH c0 c1 l0 q
      have c0 := H4.out.c0
      have c1 := H4.out.c1
      have l0 := H4.out.lt
      have m0 := D4.out.lt
      have q := ((HF.out.below H4.out.below).at hlt)
      obtain ⟨p', off', e', _, q⟩ := q
      obtain ⟨rfl, rfl⟩ : p = p' ∧ off = off' := by simpa using e'
      clear e'
      have gp : p < (w4.alloc (C (fin x) B)).heap.size := by have := H4.out.below.size; omega
      cases hfk : f k with
      | true =>
        rw [hfk] at q
        generalize fin x = z at *
        have hy := Lib.hid (beg_ok HO.out)
        have hu := beg_up x B
        go_wp2_with fail
        generalize w4.alloc (C z B) = w5 at *
        generalize w4.heap.size = h at *
        refine (begin_ x B HO.out _).mono ?_
        rintro e w6 ⟨rfl, b6⟩
        have H6 := Lib.hid (H4.out.next b6)
        have D6 := Lib.hid (D4.out.next b6)
        clear b6 c0 c1 l0 m0 q gp H4 D4
        have f0 := D6.out.is.frozen 0
        have f1 := D6.out.is.frozen 1
        have m0 := D6.out.lt
        have H7 := Lib.hid (H6.out.far hne D6.out.ge (beg x B) B)
        have D7 := Lib.hid (D6.out.put (beg x B) B)
        have z0 := D6.out.c0
        have z1 := D6.out.c1
        generalize beg x B = y at *
        have c0 := H7.out.c0
        have c1 := H7.out.c1
        have l0 := H7.out.lt
        have e0 := D7.out.c0
        have e1 := D7.out.c1
        have n0 := D7.out.lt
        go_wp2_with fail
        generalize (w6.setCell ⟨h, 0, none⟩ (.int .u64 y)).setCell ⟨h, 1, none⟩ (.int .u64 B) = w7 at *
        clear H6 D6 z0 z1 f0 f1 m0
        have d1 : decide (y < x) = false := by simp; omega
        have d2 := wrap_sub hu.1 hu.2
        have d3 : decide (b < y) = false := by have := HL.out; have := hy.out.le; simp; omega
        have d5 : (x == B) = true → (y == B) = true := by have := hy.out.le; simp; omega
        obtain ⟨p', off', e', _, q⟩ := ((HF.out.below H7.out.below).at hlt)
        obtain ⟨rfl, rfl⟩ : p = p' ∧ off = off' := by simpa using e'
        clear e'
        rw [hfk] at q
        have q0 := cell_regrown c0
        have q1 := cell_regrown c1
        have q2 := cell_regrown e0
        have q3 := cell_regrown e1
        have q4 := cell_regrown q
        have HY := Lib.hid hu
        clear hu c0 c1 e0 e1 q l0 n0
        cases hs : (x == B) with
        | true =>
          have ht := d5 hs
          clear d5
          refine wp_region_quiet_below (by kernel_rfl) (by kernel_rfl) ?_
          repeat (quiet_step (first
            | (go_at_call 14; exact Calls.regrown_of (value _ _ _))
            | (go_at_call 15; exact Calls.regrown_of (spent1 x B true hs _))
            | (go_at_call 15; exact Calls.regrown_of (spent1 y B true ht _))))
          refine wpQuiet_nil ?_
          intro _ hw'
          obtain ⟨⟨nq, osq⟩, hw''⟩ := hw'
          subst hw''
          have Kz := below_regrown w7 nq osq
          have H8 := Lib.hid (H7.out.next Kz)
          have D8 := Lib.hid (D7.out.next Kz)
          clear Kz q0 q1 q2 q3 q4
          generalize Go.Sort.grow (redrawn w7 nq) osq = w8 at *
          have c0 := H8.out.c0
          have c1 := H8.out.c1
          have l0 := H8.out.lt
          have e0 := D8.out.c0
          have e1 := D8.out.c1
          have n0 := D8.out.lt
          have f0 := H8.out.is.frozen 0
          have f1 := H8.out.is.frozen 1
          have HN := Lib.hid (H8.out.put y B)
          go_wp2_with fail
          go_roundw
          case rel => exact ⟨k + 1, y, by omega, by go_num, hy.out, HN.out⟩
          case measure => simp [intOf]; omega
        | false =>
          clear d5
          refine wp_region_quiet_below (by kernel_rfl) (by kernel_rfl) ?_
          repeat (quiet_step (first
            | (go_at_call 14; exact Calls.regrown_of (value _ _ _))
            | (go_at_call 15; exact Calls.regrown_of (spent1 x B false hs _))))
          refine wpQuiet_nil ?_
          intro _ hw'
          obtain ⟨⟨nq, osq⟩, hw''⟩ := hw'
          subst hw''
          have Kz := below_regrown w7 nq osq
          have H8 := Lib.hid (H7.out.next Kz)
          have D8 := Lib.hid (D7.out.next Kz)
          clear Kz q0 q1 q2 q3 q4
          generalize Go.Sort.grow (redrawn w7 nq) osq = w8 at *
          have c0 := H8.out.c0
          have c1 := H8.out.c1
          have l0 := H8.out.lt
          have e0 := D8.out.c0
          have e1 := D8.out.c1
          have n0 := D8.out.lt
          have f0 := H8.out.is.frozen 0
          have f1 := H8.out.is.frozen 1
          have HN := Lib.hid (H8.out.put y B)
          go_wp2_with fail
          go_roundw
          case rel => exact ⟨k + 1, y, by omega, by go_num, hy.out, HN.out⟩
          case measure => simp [intOf]; omega
      | false =>
        rw [hfk] at q
        have D7 := D4
        have H7 := H4
        have hy := hyf
        have hu := huf
        have e0 := D7.out.c0
        have e1 := D7.out.c1
        clear hyf huf D4 H4
        generalize fin x = y at *
        go_wp2_with fail
        generalize w4.alloc (C y B) = w7 at *
        generalize w4.heap.size = h at *
        have n0 := m0
        clear m0
        have d1 : decide (y < x) = false := by simp; omega
        have d2 := wrap_sub hu.1 hu.2
        have d3 : decide (b < y) = false := by have := HL.out; have := hy.out.le; simp; omega
        have d5 : (x == B) = true → (y == B) = true := by have := hy.out.le; simp; omega
        obtain ⟨p', off', e', _, q⟩ := ((HF.out.below H7.out.below).at hlt)
        obtain ⟨rfl, rfl⟩ : p = p' ∧ off = off' := by simpa using e'
        clear e'
        rw [hfk] at q
        have q0 := cell_regrown c0
        have q1 := cell_regrown c1
        have q2 := cell_regrown e0
        have q3 := cell_regrown e1
        have q4 := cell_regrown q
        have HY := Lib.hid hu
        clear hu c0 c1 e0 e1 q l0 n0
        cases hs : (x == B) with
        | true =>
          have ht := d5 hs
          clear d5
          refine wp_region_quiet_below (by kernel_rfl) (by kernel_rfl) ?_
          repeat (quiet_step (first
            | (go_at_call 14; exact Calls.regrown_of (value _ _ _))
            | (go_at_call 17; exact Calls.regrown_of (writing1 y B false hy.out.U hef _))
            | (go_at_call 15; exact Calls.regrown_of (spent1 x B true hs _))
            | (go_at_call 15; exact Calls.regrown_of (spent1 y B true ht _))))
          refine wpQuiet_nil ?_
          intro _ hw'
          obtain ⟨⟨nq, osq⟩, hw''⟩ := hw'
          subst hw''
          have Kz := below_regrown w7 nq osq
          have H8 := Lib.hid (H7.out.next Kz)
          have D8 := Lib.hid (D7.out.next Kz)
          clear Kz q0 q1 q2 q3 q4
          generalize Go.Sort.grow (redrawn w7 nq) osq = w8 at *
          have c0 := H8.out.c0
          have c1 := H8.out.c1
          have l0 := H8.out.lt
          have e0 := D8.out.c0
          have e1 := D8.out.c1
          have n0 := D8.out.lt
          have f0 := H8.out.is.frozen 0
          have f1 := H8.out.is.frozen 1
          have HN := Lib.hid (H8.out.put y B)
          go_wp2_with fail
          go_roundw
          case rel => exact ⟨k + 1, y, by omega, by go_num, hy.out, HN.out⟩
          case measure => simp [intOf]; omega
        | false =>
          clear d5
          refine wp_region_quiet_below (by kernel_rfl) (by kernel_rfl) ?_
          repeat (quiet_step (first
            | (go_at_call 14; exact Calls.regrown_of (value _ _ _))
            | (go_at_call 17; exact Calls.regrown_of (writing1 y B false hy.out.U hef _))
            | (go_at_call 15; exact Calls.regrown_of (spent1 x B false hs _))))
          refine wpQuiet_nil ?_
          intro _ hw'
          obtain ⟨⟨nq, osq⟩, hw''⟩ := hw'
          subst hw''
          have Kz := below_regrown w7 nq osq
          have H8 := Lib.hid (H7.out.next Kz)
          have D8 := Lib.hid (D7.out.next Kz)
          clear Kz q0 q1 q2 q3 q4
          generalize Go.Sort.grow (redrawn w7 nq) osq = w8 at *
          have c0 := H8.out.c0
          have c1 := H8.out.c1
          have l0 := H8.out.lt
          have e0 := D8.out.c0
          have e1 := D8.out.c1
          have n0 := D8.out.lt
          have f0 := H8.out.is.frozen 0
          have f1 := H8.out.is.frozen 1
          have HN := Lib.hid (H8.out.put y B)
          go_wp2_with fail
          go_roundw
          case rel => exact ⟨k + 1, y, by omega, by go_num, hy.out, HN.out⟩
          case measure => simp [intOf]; omega
    · go_wp2_with fail
      go_ret
      exact ⟨rfl, HH.out.below⟩

theorem walkLong (b : Int) (A : Option Addr) (n c : Nat) (hn : 400 < n) (w : World) :
    Calls Try.prog 6 #[.int .u64 b, .slice A n c] w fun e w' => e = .returned (.bool true) ∧ Below w.heap.size w w' := by
  have d0 : decide (400 < (n : Int)) = true := by simp; omega
  go_enter Try.func6, Try.ntmps6
  go_wp2_with fail
  refine (awake w).mono ?_
  rintro e w1 ⟨rfl, b1⟩
  have HB := Lib.hid b1
  clear b1
  go_wp2_with fail
  refine (awake _).mono ?_
  rintro e w2 ⟨rfl, b2⟩
  have HB2 := Lib.hid (HB.out.trans (b2.mono HB.out.size))
  clear b2
  go_wp2_with fail
  go_ret
  exact ⟨rfl, HB2.out⟩

theorem walk0 (b : Int) (A : Option Addr) (n c : Nat) (f : Nat → Bool) (hb : U b) (w : World) (hf : Law.Flags w w.heap.size A n f) :
    Calls Try.prog 6 #[.int .u64 b, .slice A n c] w fun e w' => e = .returned (.bool true) ∧ Below w.heap.size w w' := by
  by_cases h : n ≤ 400
  · exact walk b A n c f hb h w hf
  · exact walkLong b A n c (by omega) w

set_option maxRecDepth 100000 in
theorem lifted (os : Os) (started : os.Started) (H : Type) (enc : TypeId × Value → H) :
    ReturnsInHanded {} Try.checked os 6 .any (Rows.cellRisesSpec.pre6 enc Try.prog Try.f6 Rows.cellRisesRow.domain false) (Rows.cellRisesSpec.post enc Try.prog Try.f6 false true false false) := by
  refine returnsInHanded_of_change (C := Try.checked) own started (by kernel_rfl) Try.func6
    (ChangeSpec.witness6 (enc := enc) (C := Try.checked) false ⟨#[], #[.int .u64 0, .slice none 0 0], []⟩ 8 (by kernel_rfl) (by kernel_rfl) (by kernel_rfl) (by kernel_rfl)) ?_
  intro W base args ds gs before hval0 hW hcnd _
  have hval : ∀ (j : Nat) t v, Try.f6.params[j]? = some t → args[j]? = some v → Value.okWide Try.prog W .any base t v := hval0
  have hW' := hW
  obtain ⟨p, q, hA0, hV, rfl, hfz, hnd⟩ := hW
  have hA : DataW.TrodAll enc Try.prog W 0 (fun _ => true) true Try.f6.params.toList args.toList ds p := hA0
  rw [Try.params6] at hA hval
  obtain ⟨v0, vs0, d0, ds0, p0, q0, hargs, rfl, rfl, h0, r0⟩ := trodAll_cons hA
  obtain ⟨v1, vs1, d1, ds1, p1, q1, rfl, rfl, rfl, h1, r1⟩ := trodAll_cons r0
  obtain ⟨rfl, rfl, rfl⟩ := trodAll_nil r1
  obtain rfl : args = #[v0, v1] := by cases args; simp_all
  obtain ⟨a0, rfl, rfl, rfl, w0⟩ := open_int Try.underlying22 (hval 0 22 v0 rfl rfl) h0
  obtain ⟨A, n, c, f, rfl, hf⟩ := Law.open_flags Try.underlying23 Try.underlying4 (by kernel_rfl) (hval 1 23 v1 rfl rfl) h1
  refine (walk0 a0 A n c f (ofwf w0) W hf).mono fun e W' ⟨he, bel⟩ => ?_
  subst he
  exact ⟨_, rfl, Law.post_law laidOut (by kernel_rfl) (by kernel_rfl) Try.underlying4 rfl (fun ds h => by match ds, h with | [_, _], _ => rfl) hW' bel⟩

theorem proved : Rows.CellRisesSaid :=
  OpenClaim.holds_of_wide 6 Try.f6 rfl rfl rfl rfl rfl rfl rfl ⟨rfl, rfl, rfl, rfl, rfl⟩ rfl rfl rfl rfl rfl (by kernel_rfl) Try.func6 (by kernel_rfl)
    (of_decide_eq_true (by kernel_rfl)) (by unfold Func.isWrapper; rw [if_neg (by decide +kernel)]; exact ⟨rfl, rfl⟩)
    (fun os started H enc _ => lifted os started H enc)
#print axioms proved
end Go.Proofs.Ytkfhkipilldhoaa.cellRises
