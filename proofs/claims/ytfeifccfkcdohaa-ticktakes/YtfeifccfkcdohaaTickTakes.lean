/-
  TickTakes: whatever the time and the number, the statement's function returns true, and the arguments read as before. No condition.
-/
import Derived.Test.YtfeifccfkcdohaaOpenTime
import Derived.Deep.LoopGhost
namespace Go.Proofs.Ytfeifccfkcdohaa.tickTakes
open Go.ChangeShapes Go.WideShapes Go.ChangeAt Go.RowKit
open Door

/-- the cells of a time -/
abbrev cs (n s : Int) (c : Bool) : Array Value := #[.int .u64 n, .int .u64 s, .bool c]

/-- what holds at every round's head -/
def Rel (w : World) (n s : Int) (c : Bool) (m : Nat) (k : Nat) (last i : Value) (wr : World) : Prop :=
  ∃ (j : Nat) (s' : Int), j + k = m ∧ i = .int .i64 (j : Int) ∧ last = .int .u64 s' ∧ U s' ∧
    Law.Is wr w.heap.size 24 (cs n s' c) ∧ Law.Is wr (w.heap.size + 1) 24 (cs n s c) ∧ Below w.heap.size w wr

set_option maxHeartbeats 2000000 in
theorem walk (n s : Int) (c : Bool) (m : Nat) (ws : U s) (hm1 : m ≤ 255) (w : World) :
    Calls Try.prog 5 #[Tick.T n s c, .int .u8 (m : Int)] w fun e w' => e = .returned (.bool true) ∧ Below w.heap.size w w' := by
  go_enter Try.func5, Try.ntmps5
  go_wp2_with (go_at_call 9; refine (Tick.awake _).mono ?_; rintro e w' ⟨rfl, rfl⟩)
  go_loopg [6, 7] m (fun k last i wr => Rel w n s c m k last i wr)
  case atStart =>
    exact ⟨0, s, by omega, rfl, rfl, ws, (Law.Is.new _ _ _ rfl).alloc _, Law.Is.new _ _ _ (by simp), ((Below.refl _ _).alloc (Nat.le_refl _) _).alloc (by simp) _⟩
  case round =>
    obtain ⟨j, s', hj, rfl, rfl, hs', h1, h2, hb⟩ := hrel
    have c0 := h1.cell 0
    have c1 := h1.cell 1
    have c2 := h1.cell 2
    have d0 := h2.cell 0
    have d1 := h2.cell 1
    have d2 := h2.cell 2
    have f0 := h1.frozen 0
    have f1 := h1.frozen 1
    have f2 := h1.frozen 2
    have l1 := h1.lt
    have l2 := h2.lt
    simp only [cs, List.getElem?_toArray, List.getElem?_cons_zero, List.getElem?_cons_succ] at c0 c1 c2 d0 d1 d2
    have hle : ¬ sat s' 1 < s' := by have := le_sat hs' U1; omega
    by_cases hlt : j < m
    · have fin : ∀ wx : World, Law.Is wx w.heap.size 24 (cs n (sat s' 1) c) → Law.Is wx (w.heap.size + 1) 24 (cs n s c) → Below w.heap.size w wx →
          Rel w n s c m (gk - 1) (.int .u64 (sat s' 1)) (.int .i64 ((j : Int) + 1)) wx :=
        fun wx a1 a2 a3 => ⟨j + 1, sat s' 1, by omega, by simp, rfl, sat_U hs' U1, a1, a2, a3⟩
      by_cases ht : s' = top
      · have e1 : (sat s' 1 == s') = true := by rw [ht, top_sat U1]; simp
        have e2 : (s' != 18446744073709551615) = false := by rw [ht]; rfl
        clear ht
        go_wp2_with (go_at_call 11; refine (Tick.take _ _ _ hs' _).mono ?_; rintro e w' ⟨rfl, rfl⟩)
        go_roundg (gk - 1)
        case measure => omega
        case rel => exact fin _ (((((((h1.set 0 _ rfl).set 1 _ rfl).set 2 _ rfl).alloc _).alloc _).alloc _).drew) (((((((h2.far (by simp) _).far (by simp) _).far (by simp) _).alloc _).alloc _).alloc _).drew) ((((((((hb.setCell (Nat.le_refl _) _).setCell (Nat.le_refl _) _).setCell (Nat.le_refl _) _).alloc (by simpa [World.setCell] using hb.size) _).alloc (by simpa [World.setCell] using Nat.le_succ_of_le hb.size) _).alloc (by simpa [World.setCell] using Nat.le_succ_of_le (Nat.le_succ_of_le hb.size)) _).drew))
      · have e1 : (sat s' 1 == s') = false := by
          have : s' < top := by unfold U at hs'; omega
          rw [sat_lt (by omega)]; simp; omega
        clear ht
        go_wp2_with (go_at_call 11; refine (Tick.take _ _ _ hs' _).mono ?_; rintro e w' ⟨rfl, rfl⟩)
        go_roundg (gk - 1)
        case measure => omega
        case rel => exact fin _ (((((((h1.set 0 _ rfl).set 1 _ rfl).set 2 _ rfl).alloc _).alloc _).alloc _).drew) (((((((h2.far (by simp) _).far (by simp) _).far (by simp) _).alloc _).alloc _).alloc _).drew) ((((((((hb.setCell (Nat.le_refl _) _).setCell (Nat.le_refl _) _).setCell (Nat.le_refl _) _).alloc (by simpa [World.setCell] using hb.size) _).alloc (by simpa [World.setCell] using Nat.le_succ_of_le hb.size) _).alloc (by simpa [World.setCell] using Nat.le_succ_of_le (Nat.le_succ_of_le hb.size)) _).drew))
    · go_wp2_with (go_at_call 12; refine (Tick.shut _ _ _ _).mono ?_; rintro e w' ⟨rfl, rfl⟩)
      go_ret
      exact ⟨rfl, ((hb.alloc hb.size _).alloc (by simp; omega) _).alloc (by simp; omega) _⟩

theorem walk0 (n s : Int) (c : Bool) (m : Int) (ws : U s) (hm : (Lit.int .u8 m).wf = true) (w : World) :
    Calls Try.prog 5 #[Tick.T n s c, .int .u8 m] w fun e w' => e = .returned (.bool true) ∧ Below w.heap.size w w' := by
  have := bounds_u8 hm
  obtain ⟨k, rfl⟩ := Int.eq_ofNat_of_zero_le this.1
  exact walk n s c k ws (by omega) w

set_option maxRecDepth 100000 in
theorem lifted (os : Os) (started : os.Started) (H : Type) (enc : TypeId × Value → H) :
    ReturnsInHanded {} Try.checked os 5 .any (Rows.tickTakesSpec.pre6 enc Try.prog Try.f5 Rows.tickTakesRow.domain false) (Rows.tickTakesSpec.post enc Try.prog Try.f5 false true false false) := by
  refine returnsInHanded_of_change (C := Try.checked) own started (by kernel_rfl) Try.func5
    (ChangeSpec.witness6 (enc := enc) (C := Try.checked) false ⟨#[], #[Tick.T 0 0 false, .int .u8 0], []⟩ 8 (by kernel_rfl) (by kernel_rfl) (by kernel_rfl) (by kernel_rfl)) ?_
  intro W base args ds gs before hval0 hW hcnd _
  have hval : ∀ (j : Nat) t v, Try.f5.params[j]? = some t → args[j]? = some v → Value.okWide Try.prog W .any base t v := hval0
  have hW' := hW
  obtain ⟨p, q, hA0, hV, rfl, hfz, hnd⟩ := hW
  have hA : DataW.TrodAll enc Try.prog W 0 (fun _ => true) true Try.f5.params.toList args.toList ds p := hA0
  rw [Try.params5] at hA hval
  obtain ⟨v0, vs0, d0, ds0, p0, q0, hargs, rfl, rfl, h0, r0⟩ := trodAll_cons hA
  obtain ⟨v1, vs1, d1, ds1, p1, q1, rfl, rfl, rfl, h1, r1⟩ := trodAll_cons r0
  obtain ⟨rfl, rfl, rfl⟩ := trodAll_nil r1
  obtain rfl : args = #[v0, v1] := by cases args; simp_all
  obtain ⟨n, s, c, rfl, wn, ws⟩ := open_time (hval 0 24 v0 rfl rfl) h0
  obtain ⟨a1, rfl, rfl, rfl, w1⟩ := open_int Try.underlying5 (hval 1 5 v1 rfl rfl) h1
  refine (walk0 n s c a1 ws w1 W).mono fun e W' ⟨he, bel⟩ => ?_
  subst he
  exact ⟨_, rfl, Law.post_law laidOut (by kernel_rfl) (by kernel_rfl) Try.underlying4 rfl (fun ds h => by match ds, h with | [_, _], _ => rfl) hW' bel⟩

theorem proved : Rows.TickTakesSaid :=
  OpenClaim.holds_of_wide 5 Try.f5 rfl rfl rfl rfl rfl rfl rfl ⟨rfl, rfl, rfl, rfl, rfl⟩ rfl rfl rfl rfl rfl (by kernel_rfl) Try.func5 (by kernel_rfl)
    (of_decide_eq_true (by kernel_rfl)) (by unfold Func.isWrapper; rw [if_neg (by decide +kernel)]; exact ⟨rfl, rfl⟩)
    (fun os started H enc _ => lifted os started H enc)
#print axioms proved
end Go.Proofs.Ytfeifccfkcdohaa.tickTakes
