/-
  Acts of layer 13's statements as an argument; the reference's calls beside the program's.
-/
import Derived.Test.YtnbnhkijmlbefaaLatch02
import Derived.Test.YtnbnhkijmlbefaaOpenRows
namespace Go.Proofs.Ytnbnhkijmlbefaa
open Go.RowKit Go.ChangeShapes Go.WideShapes Go.ChangeAt
namespace Lt
open Go.Law
abbrev cellsA (q : Bool × Int) : List Value := [.bool q.1, .int .i64 q.2]
theorem bounds_i64 {a : Int} (h : (Lit.int .i64 a).wf = true) : I64 a := by simpa [Lit.wf, IntKind.min, IntKind.max, IntKind.signed, IntKind.bits, I64] using h
section
variable {H : Type} {enc : TypeId × Value → H} {P : Program} {W : World} {base b0 : Nat} {sp : Nat → Bool} {hd : Bool} {v : Value} {d : DataW H} {p : List MemPlace}
theorem dec_pair {fuel : Nat} {cs : List Value} {x : DataW H × List MemPlace} {e : TypeId} {f0 f1 : Field} (he : P.underlying e = some (.struct #[f0, f1])) (ce : P.cellsOf e = 2) (o0 : f0.offset = 0) (o1 : f1.offset = 1)
    (c0 : P.cellsOf f0.type = 1) (c1 : P.cellsOf f1.type = 1) (u0 : P.underlying f0.type = some .bool) (u1 : P.underlying f1.type = some (.int .i64))
    (h : DataW.trod enc P W base sp hd fuel e cs = some x) : ∃ q : Bool × Int, cs = cellsA q ∧ I64 q.2 := by
  obtain ⟨xs, n, _, _, hl, hxl, hf⟩ := DataW.trod_struct he h
  rw [ce] at hl
  match cs, hl, xs, hxl with
  | [v0, v1], _, [y0, y1], _ =>
    have k0 := hf 0 f0 rfl
    have k1 := hf 1 f1 rfl
    simp [o0, o1, c0, c1] at k0 k1
    obtain ⟨a0, e0, _⟩ := DataW.trod_bool u0 k0
    obtain ⟨a1, e1, _, w1⟩ := DataW.trod_int u1 k1
    simp at e0 e1
    subst e0 e1
    exact ⟨(a0, a1), rfl, bounds_i64 w1⟩
theorem cellsAct : Try.prog.cellsOf 27 = 2 := by kernel_rfl
set_option maxRecDepth 100000 in
theorem open_acts (hv : Value.okWide Try.prog W .any b0 22 v) (h : DataW.Trod enc Try.prog W base sp hd 22 v d p) :
    ∃ (A : Option Addr) (c : Nat) (l : List (Bool × Int)), v = .slice A l.length c ∧ Seq W 0 W.heap.size A (l.flatMap cellsA) ∧ l.length ≤ maxLen ∧ ∀ q ∈ l, I64 q.2 :=
  open_rows (sz := 2) cellsA (fun _ => rfl) Try.underlying22 cellsAct (by decide) (fun _ _ _ h => dec_pair Try.underlying27 cellsAct rfl rfl (by kernel_rfl) (by kernel_rfl) Try.underlying4 Try.underlying3 h) hv h
end
/-- an act's cells -/
theorem act_at {w : World} {B : Nat} {A : Option Addr} {l : List (Bool × Int)} {i : Nat} (h : Seq w 0 B A (l.flatMap cellsA)) (hi : i < l.length) : ∃ b off, A = some ⟨b, off, none⟩ ∧ b < B ∧ w.cell? ⟨b, off + i * 2, none⟩ = some (.bool l[i].1) ∧ w.cell? ⟨b, off + i * 2 + 1, none⟩ = some (.int .i64 l[i].2) := by
  obtain ⟨b, off, e, _, hb, hc⟩ := Seq.row (cells := cellsA) (fun _ => rfl) (by decide : 0 < 2) h hi
  exact ⟨b, off, e, hb, by simpa using hc 0 _ rfl, hc 1 _ rfl⟩
def one? (b : Bool) : Int := if b then 1 else 0
theorem one_eq (b : Bool) : (one? b == 1) = b := by cases b <;> rfl
/-- the reference's Take beside it -/
theorem own_tk {x a : Int} (hx : Ok x) (ha : I64 a) (hm : a ≠ 9223372036854775807) {y : Int} {b : Bool} (h : tk x a = (y, b)) : own (x - 1) a = (y - 1, one? b) := by
  unfold tk at h
  unfold Ok at hx
  unfold I64 at ha
  unfold own
  by_cases h0 : x = 0
  · by_cases h1 : 0 ≤ a
    · have e : (x == 0 && pr a) = true := by simp [pr, h0]; omega
      rw [if_pos e] at h
      cases h
      have e2 : (decide (x - 1 < 0) && decide (0 ≤ a)) = true := by simp; omega
      rw [if_pos e2]
      simp [one?]
    · have e : ¬ (x == 0 && pr a) = true := by simp [pr]; omega
      rw [if_neg e] at h
      cases h
      have e2 : ¬ (decide (x - 1 < 0) && decide (0 ≤ a)) = true := by simp; omega
      rw [if_neg e2]
      simp [one?]
  · have e : ¬ (x == 0 && pr a) = true := by simp [h0]
    rw [if_neg e] at h
    cases h
    have e2 : ¬ (decide (x - 1 < 0) && decide (0 ≤ a)) = true := by simp; omega
    rw [if_neg e2]
    simp [one?]
theorem giv_gv {x a : Int} (hx : Ok x) {y : Int} {b : Bool} (h : gv x a = (y, b)) : giv (x - 1) a = (y - 1, one? b) := by
  unfold gv at h
  unfold Ok at hx
  unfold giv
  by_cases h0 : x = 0
  · have e : ¬ (x != 0 && x - 1 == a) = true := by simp [h0]
    rw [if_neg e] at h
    cases h
    have e2 : ¬ (decide (0 ≤ x - 1) && x - 1 == a) = true := by simp; omega
    rw [if_neg e2]
    simp [one?]
  · by_cases h1 : x - 1 = a
    · have e : (x != 0 && x - 1 == a) = true := by simp [h0, h1]
      rw [if_pos e] at h
      cases h
      have e2 : (decide (0 ≤ x - 1) && x - 1 == a) = true := by simp [h1]; omega
      rw [if_pos e2]
      simp [one?]
    · have e : ¬ (x != 0 && x - 1 == a) = true := by simp [h0, h1]
      rw [if_neg e] at h
      cases h
      have e2 : ¬ (decide (0 ≤ x - 1) && x - 1 == a) = true := by simp [h1]
      rw [if_neg e2]
      simp [one?]
theorem refTake1 (x a y : Int) (b : Bool) (hx : Ok x) (ha : I64 a) (hm : a ≠ 9223372036854775807) (h : tk x a = (y, b)) (o o' : Int) (ho : x - 1 = o) (ho' : y - 1 = o') (w : World) : Calls Try.prog 12 #[.int .i64 o, .int .i64 a] w fun e w' => e = .returned (.tuple #[.int .i64 o', .int .i64 (one? b)]) ∧ w = w' := by
  subst ho ho'
  have := refTake (x - 1) a w
  rw [own_tk hx ha hm h] at this
  exact this
theorem refGive1 (x a y : Int) (b : Bool) (hx : Ok x) (h : gv x a = (y, b)) (o o' : Int) (ho : x - 1 = o) (ho' : y - 1 = o') (w : World) : Calls Try.prog 10 #[.int .i64 o, .int .i64 a] w fun e w' => e = .returned (.tuple #[.int .i64 o', .int .i64 (one? b)]) ∧ w = w' := by
  subst ho ho'
  have := refGive (x - 1) a w
  rw [giv_gv hx h] at this
  exact this
end Lt
end Go.Proofs.Ytnbnhkijmlbefaa
