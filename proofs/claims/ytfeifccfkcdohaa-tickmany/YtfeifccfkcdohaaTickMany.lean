/-
  TickMany: whatever the numbers and the place, the statement's function returns true, and the arguments read as before. No condition.
-/
import Derived.Test.YtfeifccfkcdohaaOpenTime
import Derived.Test.YtfeifccfkcdohaaPlainSum
import Derived.Deep.LoopGhost
import Derived.Lib.Hide
namespace Go.Proofs.Ytfeifccfkcdohaa.tickMany
open Go.ChangeShapes Go.WideShapes Go.ChangeAt Go.RowKit
open Door

/-- what holds at every round's head -/
def Rel (f : Nat → Int) (r n : Nat) (k : Nat) (a b i : Value) (w wr : World) : Prop :=
  ∃ j : Nat, j + k = n ∧ i = .int .i64 (j : Int) ∧ a = .int .u64 (cap (sumTo f j)) ∧ b = .int .u64 (cap (sumTo (fun i => f ((i + r) % n)) j)) ∧ w = wr

set_option maxHeartbeats 2000000 in
theorem walk (b off n c : Nat) (f : Nat → Int) (r : Nat) (hr : r ≤ 255) (hn0 : 0 < n) (hn : n ≤ 400) (w : World) (hc : ∀ i, i < n → w.cell? ⟨b, off + i, none⟩ = some (.int .u64 (f i))) (hU : ∀ i, i < n → U (f i)) :
    Calls Try.prog 8 #[.slice (some ⟨b, off, none⟩) n c, .int .u8 (r : Int)] w fun e w' => e = .returned (.bool true) ∧ Below w.heap.size w w' := by
  have hd : decide (400 < (n : Int)) = false := by simp; omega
  go_enter Try.func8, Try.ntmps8
  go_wp2_with (go_at_call 9; refine (Tick.awake _).mono ?_; rintro e w' ⟨rfl, rfl⟩)
  go_loopg [5, 6, 7] n (fun k a b i wr => Rel f r n k a b i w wr)
  case atStart => exact ⟨0, by omega, rfl, by simp [sumTo, cap0], by simp [sumTo, cap0], rfl⟩
  case round =>
    obtain ⟨j, hj, rfl, rfl, rfl, rfl⟩ := hrel
    by_cases hlt : j < n
    · have c1 := hc j hlt
      have u1 := hU j hlt
      have p1 := sumTo_nonneg (f := f) (k := j) (fun i hi => (hU i (by omega)).1)
      have p2 := sumTo_nonneg (f := fun i => f ((i + r) % n)) (k := j) (fun i hi => (hU _ (Nat.mod_lt _ hn0)).1)
      have q1 := cap_U p1
      have q2 := cap_U p2
      have hm : (j + r) % n < n := Nat.mod_lt _ hn0
      have c2 := hc _ hm
      have u2 := hU _ hm
      have s1 : sat (cap (sumTo f j)) (f j) = cap (sumTo f (j + 1)) := sat_cap u1
      have s2 : sat (f ((j + r) % n)) (cap (sumTo (fun i => f ((i + r) % n)) j)) = cap (sumTo (fun i => f ((i + r) % n)) (j + 1)) := cap_sat u2
      have hq : ((j : Int) + (r : Int)) % (n : Int) = (((j + r) % n : Nat) : Int) := by simp
      generalize (j + r) % n = q at hm c2 u2 hq s2
      generalize hA : cap (sumTo f (j + 1)) = A at s1
      generalize hB : cap (sumTo (fun i => f ((i + r) % n)) (j + 1)) = B at s2
      have HA := Lib.hid hA
      have HB := Lib.hid hB
      clear hc hU hA hB p1 p2
      go_wp2_with fail
      refine (Tick.add _ _ q1 u1 _).mono ?_
      rintro e w' ⟨rfl, rfl⟩
      go_wp2_with fail
      refine (Tick.add _ _ u2 q2 _).mono ?_
      rintro e w' ⟨rfl, rfl⟩
      go_wp2_with fail
      go_roundg (gk - 1)
      case measure => omega
      case rel => exact ⟨j + 1, by omega, by simp, by rw [HA.out], by rw [HB.out], rfl⟩
    · obtain rfl : j = n := by omega
      have e : (cap (sumTo f j) == cap (sumTo (fun i => f ((i + r) % j)) j)) = true := by rw [sumTo_turned f j r hn0]; simp
      clear hc hU
      go_wp2_with fail
      go_ret
      exact ⟨rfl, Below.refl _ _⟩

set_option maxHeartbeats 400000 in
theorem walkNone (a : Option Addr) (c : Nat) (r : Int) (w : World) :
    Calls Try.prog 8 #[.slice a 0 c, .int .u8 r] w fun e w' => e = .returned (.bool true) ∧ Below w.heap.size w w' := by
  go_enter Try.func8, Try.ntmps8
  go_wp2_with (go_at_call 9; refine (Tick.awake _).mono ?_; rintro e w' ⟨rfl, rfl⟩)
  go_loopg [5, 6, 7] 0 (fun _ a b i wr => a = .int .u64 0 ∧ b = .int .u64 0 ∧ i = .int .i64 0 ∧ w = wr)
  case atStart => exact ⟨rfl, rfl, rfl, rfl⟩
  case round =>
    obtain ⟨rfl, rfl, rfl, rfl⟩ := hrel
    go_wp2_with fail
    go_ret
    exact ⟨rfl, Below.refl _ _⟩

set_option maxHeartbeats 400000 in
theorem walkLong (a : Option Addr) (n c : Nat) (r : Int) (hn : 400 < n) (w : World) :
    Calls Try.prog 8 #[.slice a n c, .int .u8 r] w fun e w' => e = .returned (.bool true) ∧ Below w.heap.size w w' := by
  go_enter Try.func8, Try.ntmps8
  go_wp2_with (go_at_call 9; refine (Tick.awake _).mono ?_; rintro e w' ⟨rfl, rfl⟩)
  go_ret
  exact ⟨rfl, Below.refl _ _⟩

/-- a slice of numbers that came in: each of its elements is a cell -/
theorem open_nums {H : Type} {enc : TypeId × Value → H} {W : World} {base b0 : Nat} {sp : Nat → Bool} {hd : Bool} {v : Value} {d : DataW H} {p : List MemPlace}
    (hv : Value.okWide Try.prog W .any b0 36 v) (h : DataW.Trod enc Try.prog W base sp hd 36 v d p) :
    ∃ (a : Option Addr) (n c : Nat), v = .slice a n c ∧ (0 < n → ∃ (b off : Nat) (f : Nat → Int), a = some ⟨b, off, none⟩ ∧ ∀ i, i < n → W.cell? ⟨b, off + i, none⟩ = some (.int .u64 (f i)) ∧ U (f i)) := by
  obtain ⟨a, n, c, rfl⟩ := okWide_slice Try.underlying36 hv
  obtain ⟨fuel, hf⟩ := h
  refine ⟨a, n, c, rfl, fun hn => ?_⟩
  rcases open_ints Try.underlying36 Try.underlying22 (by kernel_rfl) hf with ⟨hcs, _⟩ | ⟨x, l, k, zs, hcs, _, hl, hm, hz, _, hcell, hwz⟩
  · simp [Value.cells] at hcs
    omega
  · simp [Value.cells] at hcs
    obtain ⟨rfl, rfl, rfl⟩ := hcs
    obtain ⟨b, off, spot⟩ := x
    have hlen : n ≤ zs.length := by rw [hz]; split <;> omega
    have hspot : spot = none := by simpa [Addr.add] using World.cell?_spot (hcell 0 (by omega))
    subst hspot
    refine ⟨b, off, fun i => zs.getD i 0, rfl, fun i hi => ⟨?_, ?_⟩⟩
    · have := hcell i (by omega)
      by_cases h0 : i = 0
      · subst h0
        simpa [Addr.add] using this
      · simpa [Addr.add, h0] using this
    · have hi' : i < zs.length := by omega
      have := hwz zs[i] (List.getElem_mem hi')
      simp only [List.getD_eq_getElem?_getD, List.getElem?_eq_getElem hi', Option.getD_some]
      exact ofwf this

theorem all (a : Option Addr) (n c : Nat) (r : Int) (w : World) (hr : (Lit.int .u8 r).wf = true)
    (h : 0 < n → ∃ (b off : Nat) (f : Nat → Int), a = some ⟨b, off, none⟩ ∧ ∀ i, i < n → w.cell? ⟨b, off + i, none⟩ = some (.int .u64 (f i)) ∧ U (f i)) :
    Calls Try.prog 8 #[.slice a n c, .int .u8 r] w fun e w' => e = .returned (.bool true) ∧ Below w.heap.size w w' := by
  by_cases h0 : n = 0
  · subst h0
    exact walkNone a c r w
  · by_cases h4 : 400 < n
    · exact walkLong a n c r h4 w
    · obtain ⟨b, off, f, rfl, hf⟩ := h (by omega)
      have := bounds_u8 hr
      obtain ⟨k, rfl⟩ := Int.eq_ofNat_of_zero_le this.1
      exact walk b off n c f k (by omega) (by omega) (by omega) w (fun i hi => (hf i hi).1) (fun i hi => (hf i hi).2)

set_option maxRecDepth 100000 in
theorem lifted (os : Os) (started : os.Started) (H : Type) (enc : TypeId × Value → H) :
    ReturnsInHanded {} Try.checked os 8 .any (Rows.tickManySpec.pre6 enc Try.prog Try.f8 Rows.tickManyRow.domain false) (Rows.tickManySpec.post enc Try.prog Try.f8 false true false false) := by
  refine returnsInHanded_of_change (C := Try.checked) own started (by kernel_rfl) Try.func8
    (ChangeSpec.witness6 (enc := enc) (C := Try.checked) false ⟨#[], #[.slice none 0 0, .int .u8 0], []⟩ 8 (by kernel_rfl) (by kernel_rfl) (by kernel_rfl) (by kernel_rfl)) ?_
  intro W base args ds gs before hval0 hW hcnd _
  have hval : ∀ (j : Nat) t v, Try.f8.params[j]? = some t → args[j]? = some v → Value.okWide Try.prog W .any base t v := hval0
  have hW' := hW
  obtain ⟨p, q, hA0, hV, rfl, hfz, hnd⟩ := hW
  have hA : DataW.TrodAll enc Try.prog W 0 (fun _ => true) true Try.f8.params.toList args.toList ds p := hA0
  rw [Try.params8] at hA hval
  obtain ⟨v0, vs0, d0, ds0, p0, q0, hargs, rfl, rfl, h0, r0⟩ := trodAll_cons hA
  obtain ⟨v1, vs1, d1, ds1, p1, q1, rfl, rfl, rfl, h1, r1⟩ := trodAll_cons r0
  obtain ⟨rfl, rfl, rfl⟩ := trodAll_nil r1
  obtain rfl : args = #[v0, v1] := by cases args; simp_all
  obtain ⟨a, n, c, rfl, hn⟩ := open_nums (hval 0 36 v0 rfl rfl) h0
  obtain ⟨a1, rfl, rfl, rfl, w1⟩ := open_int Try.underlying5 (hval 1 5 v1 rfl rfl) h1
  refine (all a n c a1 W w1 hn).mono fun e W' ⟨he, bel⟩ => ?_
  subst he
  exact ⟨_, rfl, Law.post_law laidOut (by kernel_rfl) (by kernel_rfl) Try.underlying4 rfl (fun ds h => by match ds, h with | [_, _], _ => rfl) hW' bel⟩

theorem proved : Rows.TickManySaid :=
  OpenClaim.holds_of_wide 8 Try.f8 rfl rfl rfl rfl rfl rfl rfl ⟨rfl, rfl, rfl, rfl, rfl⟩ rfl rfl rfl rfl rfl (by kernel_rfl) Try.func8 (by kernel_rfl)
    (of_decide_eq_true (by kernel_rfl)) (by unfold Func.isWrapper; rw [if_neg (by decide +kernel)]; exact ⟨rfl, rfl⟩)
    (fun os started H enc _ => lifted os started H enc)
#print axioms proved
end Go.Proofs.Ytfeifccfkcdohaa.tickMany
