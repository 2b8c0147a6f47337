/-
  TickPasses: whatever the time and the two numbers, the statement's function returns true, and the arguments read as before. No condition.
-/
import Derived.Test.YtfeifccfkcdohaaOpenTime
import Derived.Deep.RegionHeld3
import Derived.Deep.DeepCutAuto
namespace Go.Proofs.Ytfeifccfkcdohaa.tickPasses
open Go.ChangeShapes Go.WideShapes Go.ChangeAt Go.RowKit
open Door

/-- the cells of a time -/
abbrev cs (n s : Int) (c : Bool) : Array Value := #[.int .u64 n, .int .u64 s, .bool c]

/-- what the first statement leaves: two new times -/
def Two (w : World) (n s : Int) (c : Bool) (a b : Int) (s7 s8 : Value) (wx : World) : Prop :=
  ∃ g h : Nat, s7 = .pointer (some ⟨g, 0, none⟩) ∧ s8 = .pointer (some ⟨h, 0, none⟩) ∧ Law.Is wx g 24 (cs (sat (sat n a) b) s c) ∧ Law.Is wx h 24 (cs (sat n (sat a b)) s c) ∧
    Law.Is wx w.heap.size 24 (cs n s c) ∧ Below w.heap.size w wx

set_option maxHeartbeats 20000000 in
theorem walk (a b : Int) (n s : Int) (c : Bool) (w0 : U a) (w1 : U b) (wn : U n) (w : World) :
    Calls Try.prog 6 #[Tick.T n s c, .int .u64 a, .int .u64 b] w fun e w' => e = .returned (.bool true) ∧ Below w.heap.size w w' := by
  have u1 := sat_U wn w0
  have u2 := sat_U w0 w1
  go_enter Try.func6, Try.ntmps6
  go_upto_region 3 with (go_at_call 9; refine (Tick.awake _).mono ?_; rintro e w' ⟨rfl, rfl⟩)
  have hI : Law.Is (w.alloc (.cells #[.int .u64 n, .int .u64 s, .bool c] 24)) w.heap.size 24 (cs n s c) := Law.Is.new _ _ _ rfl
  have hB : Below w.heap.size w (w.alloc (.cells #[.int .u64 n, .int .u64 s, .bool c] 24)) := (Below.refl _ _).alloc (Nat.le_refl _) _
  generalize w.alloc (.cells #[.int .u64 n, .int .u64 s, .bool c] 24) = W at *
  have c0 := hI.cell 0
  have c1 := hI.cell 1
  have c2 := hI.cell 2
  have l1 := hI.lt
  simp only [cs, List.getElem?_toArray, List.getElem?_cons_zero, List.getElem?_cons_succ] at c0 c1 c2
  go_cut [7, 8] (fun s7 s8 wx => Two w n s c a b s7 s8 wx)
  case first =>
    go_region_held3 (fun w' => w'.cell? ⟨w.heap.size, 0, none⟩ = some (.int .u64 n) ∧ w'.cell? ⟨w.heap.size, 1, none⟩ = some (.int .u64 s) ∧ w'.cell? ⟨w.heap.size, 2, none⟩ = some (.bool c)) (go_simp) (first
      | (go_at_call 14; refine (Tick.add _ _ w0 w1 _).mono ?_; rintro e w' ⟨rfl, rfl⟩)
      | (go_at_call_of 10 (Value.int IntKind.u64 a); refine (Tick.pass _ _ _ _ wn w0 _).mono ?_; rintro e w1' ⟨rfl, rfl⟩)
      | (go_at_call_of 10 (Value.int IntKind.u64 b); refine (Tick.pass _ _ _ _ u1 w1 _).mono ?_; rintro e w1' ⟨rfl, rfl⟩)
      | (go_at_call 10; refine (Tick.pass _ _ _ _ wn u2 _).mono ?_; rintro e w1' ⟨rfl, rfl⟩))
    all_goals
      go_wp2_with fail
      go_meet
      refine ⟨_, _, rfl, rfl, ?_, ?_, ?_, ?_⟩
      · repeat (first | ((with_reducible refine Law.Is.new _ _ _ ?_); simp only [World.size_alloc]; done) | with_reducible refine Law.Is.drew ?_ | with_reducible refine Law.Is.alloc ?_ _)
      · repeat (first | ((with_reducible refine Law.Is.new _ _ _ ?_); simp only [World.size_alloc]; done) | with_reducible refine Law.Is.drew ?_ | with_reducible refine Law.Is.alloc ?_ _)
      · repeat (first | with_reducible exact hI | with_reducible refine Law.Is.drew ?_ | with_reducible refine Law.Is.alloc ?_ _)
      · repeat (first | with_reducible exact hB | with_reducible refine Below.drew ?_ | ((with_reducible refine Below.alloc ?_ ?_ _); rotate_left 1; (have hz := hB.size; (try simp only [World.size_alloc]); omega)))
  case rest =>
    obtain ⟨g, h, rfl, rfl, hg, hh, hI2, hB2⟩ := hcut
    clear hI hB c0 c1 c2 l1
    rw [← sat_assoc wn w0 w1] at hh
    have g0 := hg.cell 0
    have g1 := hg.cell 1
    have g2 := hg.cell 2
    have h0 := hh.cell 0
    have h1 := hh.cell 1
    have h2 := hh.cell 2
    have i0 := hI2.cell 0
    have i1 := hI2.cell 1
    have i2 := hI2.cell 2
    have gl := hg.lt
    have hl := hh.lt
    have il := hI2.lt
    simp only [cs, List.getElem?_toArray, List.getElem?_cons_zero, List.getElem?_cons_succ] at g0 g1 g2 h0 h1 h2 i0 i1 i2
    have ut : U 18446744073709551615 := Utop
    have et : sat n 18446744073709551615 = 18446744073709551615 := sat_top wn
    have et2 : sat 18446744073709551615 a = 18446744073709551615 := top_sat w0
    have le : n ≤ sat (sat n a) b := by have e1 := le_sat wn w0; have e2 := le_sat u1 w1; omega
    generalize sat (sat n a) b = X at *
    go_upto_region 5 with (go_at_call 10; refine (Tick.pass _ _ _ _ wn ut _).mono ?_; rintro e w1' ⟨rfl, rfl⟩)
    have hIe : Law.Is (((wc.alloc (Tick.C 18446744073709551615 s c)).alloc (Tick.C 18446744073709551615 s c)).alloc (Obj.cells #[Value.int IntKind.u64 18446744073709551615, Value.int IntKind.u64 s, Value.bool c] 24)) (wc.heap.size + 1 + 1) 24 (cs 18446744073709551615 s c) := Law.Is.new _ _ _ (by simp)
    have hg' := ((hg.alloc (Tick.C 18446744073709551615 s c)).alloc (Tick.C 18446744073709551615 s c)).alloc (Obj.cells #[Value.int IntKind.u64 18446744073709551615, Value.int IntKind.u64 s, Value.bool c] 24)
    have hh' := ((hh.alloc (Tick.C 18446744073709551615 s c)).alloc (Tick.C 18446744073709551615 s c)).alloc (Obj.cells #[Value.int IntKind.u64 18446744073709551615, Value.int IntKind.u64 s, Value.bool c] 24)
    have hi' := ((hI2.alloc (Tick.C 18446744073709551615 s c)).alloc (Tick.C 18446744073709551615 s c)).alloc (Obj.cells #[Value.int IntKind.u64 18446744073709551615, Value.int IntKind.u64 s, Value.bool c] 24)
    have hb' := ((hB2.alloc hB2.size (Tick.C 18446744073709551615 s c)).alloc (by have := hB2.size; simp only [World.size_alloc]; omega) (Tick.C 18446744073709551615 s c)).alloc (by have := hB2.size; simp only [World.size_alloc]; omega) (Obj.cells #[Value.int IntKind.u64 18446744073709551615, Value.int IntKind.u64 s, Value.bool c] 24)
    clear hg hh hI2 hB2 g0 g1 g2 h0 h1 h2 i0 i1 i2 gl hl il et
    generalize ((wc.alloc (Tick.C 18446744073709551615 s c)).alloc (Tick.C 18446744073709551615 s c)).alloc (Obj.cells #[Value.int IntKind.u64 18446744073709551615, Value.int IntKind.u64 s, Value.bool c] 24) = V at *
    generalize wc.heap.size + 1 + 1 = t at *
    have g0 := hg'.cell 0
    have g1 := hg'.cell 1
    have g2 := hg'.cell 2
    have h0 := hh'.cell 0
    have h1 := hh'.cell 1
    have h2 := hh'.cell 2
    have i0 := hi'.cell 0
    have i1 := hi'.cell 1
    have i2 := hi'.cell 2
    have e0 := hIe.cell 0
    have e1 := hIe.cell 1
    have e2 := hIe.cell 2
    have gl := hg'.lt
    have hl := hh'.lt
    have il := hi'.lt
    have el := hIe.lt
    simp only [cs, List.getElem?_toArray, List.getElem?_cons_zero, List.getElem?_cons_succ] at g0 g1 g2 h0 h1 h2 i0 i1 i2 e0 e1 e2
    go_region_held3 (fun w' => (w'.cell? ⟨w.heap.size, 0, none⟩ = some (.int .u64 n) ∧ w'.cell? ⟨w.heap.size, 1, none⟩ = some (.int .u64 s) ∧ w'.cell? ⟨w.heap.size, 2, none⟩ = some (.bool c)) ∧
        (w'.cell? ⟨g, 0, none⟩ = some (.int .u64 X) ∧ w'.cell? ⟨g, 1, none⟩ = some (.int .u64 s) ∧ w'.cell? ⟨g, 2, none⟩ = some (.bool c)) ∧
        (w'.cell? ⟨h, 0, none⟩ = some (.int .u64 X) ∧ w'.cell? ⟨h, 1, none⟩ = some (.int .u64 s) ∧ w'.cell? ⟨h, 2, none⟩ = some (.bool c)) ∧
        (w'.cell? ⟨t, 0, none⟩ = some (.int .u64 18446744073709551615) ∧ w'.cell? ⟨t, 1, none⟩ = some (.int .u64 s) ∧ w'.cell? ⟨t, 2, none⟩ = some (.bool c))) (go_simp) (first
      | (go_at_call 10; refine (Tick.pass _ _ _ _ ut w0 _).mono ?_; rintro e w1' ⟨rfl, rfl⟩)
      | (go_at_call 12; refine (Tick.shut _ _ _ _).mono ?_; rintro e w1' ⟨rfl, rfl⟩))
    go_wp2_with fail
    go_ret
    refine ⟨rfl, ?_⟩
    repeat (first | with_reducible exact hb' | with_reducible refine Below.drew ?_ | ((with_reducible refine Below.alloc ?_ ?_ _); rotate_left 1; (have hz := hb'.size; (try simp only [World.size_alloc]); omega)))

set_option maxRecDepth 100000 in
theorem lifted (os : Os) (started : os.Started) (H : Type) (enc : TypeId × Value → H) :
    ReturnsInHanded {} Try.checked os 6 .any (Rows.tickPassesSpec.pre6 enc Try.prog Try.f6 Rows.tickPassesRow.domain false) (Rows.tickPassesSpec.post enc Try.prog Try.f6 false true false false) := by
  refine returnsInHanded_of_change (C := Try.checked) own started (by kernel_rfl) Try.func6
    (ChangeSpec.witness6 (enc := enc) (C := Try.checked) false ⟨#[], #[Tick.T 0 0 false, .int .u64 0, .int .u64 0], []⟩ 8 (by kernel_rfl) (by kernel_rfl) (by kernel_rfl) (by kernel_rfl)) ?_
  intro W base args ds gs before hval0 hW hcnd _
  have hval : ∀ (j : Nat) t v, Try.f6.params[j]? = some t → args[j]? = some v → Value.okWide Try.prog W .any base t v := hval0
  have hW' := hW
  obtain ⟨p, q, hA0, hV, rfl, hfz, hnd⟩ := hW
  have hA : DataW.TrodAll enc Try.prog W 0 (fun _ => true) true Try.f6.params.toList args.toList ds p := hA0
  rw [Try.params6] at hA hval
  obtain ⟨v0, vs0, d0, ds0, p0, q0, hargs, rfl, rfl, h0, r0⟩ := trodAll_cons hA
  obtain ⟨v1, vs1, d1, ds1, p1, q1, rfl, rfl, rfl, h1, r1⟩ := trodAll_cons r0
  obtain ⟨v2, vs2, d2, ds2, p2, q2, rfl, rfl, rfl, h2, r2⟩ := trodAll_cons r1
  obtain ⟨rfl, rfl, rfl⟩ := trodAll_nil r2
  obtain rfl : args = #[v0, v1, v2] := by cases args; simp_all
  obtain ⟨n, s, c, rfl, wn, ws⟩ := open_time (hval 0 24 v0 rfl rfl) h0
  obtain ⟨a1, rfl, rfl, rfl, w1⟩ := open_int Try.underlying22 (hval 1 22 v1 rfl rfl) h1
  obtain ⟨a2, rfl, rfl, rfl, w2⟩ := open_int Try.underlying22 (hval 2 22 v2 rfl rfl) h2
  refine (walk a1 a2 n s c (ofwf w1) (ofwf w2) wn W).mono fun e W' ⟨he, bel⟩ => ?_
  subst he
  exact ⟨_, rfl, Law.post_law laidOut (by kernel_rfl) (by kernel_rfl) Try.underlying4 rfl (fun ds h => by match ds, h with | [_, _, _], _ => rfl) hW' bel⟩

theorem proved : Rows.TickPassesSaid :=
  OpenClaim.holds_of_wide 6 Try.f6 rfl rfl rfl rfl rfl rfl rfl ⟨rfl, rfl, rfl, rfl, rfl⟩ rfl rfl rfl rfl rfl (by kernel_rfl) Try.func6 (by kernel_rfl)
    (of_decide_eq_true (by kernel_rfl)) (by unfold Func.isWrapper; rw [if_neg (by decide +kernel)]; exact ⟨rfl, rfl⟩)
    (fun os started H enc _ => lifted os started H enc)
#print axioms proved
end Go.Proofs.Ytfeifccfkcdohaa.tickPasses
