/-
  A lock in a block of its own; the statements' example of layer 13 (latch); the reference's calls.
-/
import Derived.Test.YtnbnhkijmlbefaaLatch01
import Derived.Deep.RegionHeld3
import Derived.Deep.DeepCutAuto
import Derived.Deep.LoopGhost
namespace Go.Proofs.Ytnbnhkijmlbefaa
open Go.RowKit
namespace Lt
/-- block g holds the lock x; nothing of w0 has turned -/
structure Has (w0 : World) (g : Nat) (x : Int) (w : World) : Prop where
  is : Law.Is w g 25 #[.int .i64 x]
  below : Below w0.heap.size w0 w
  ge : w0.heap.size ≤ g
theorem Has.c0 {g : Nat} {w0 w : World} {x : Int} (h : Has w0 g x w) : w.cell? ⟨g, 0, none⟩ = some (.int .i64 x) := h.is.cell' rfl
theorem Has.lt {g : Nat} {w0 w : World} {x : Int} (h : Has w0 g x w) : g < w.heap.size := h.is.lt
theorem Has.next {g : Nat} {w0 w w' : World} {x : Int} (h : Has w0 g x w) (hb : Below w.heap.size w w') : Has w0 g x w' :=
  ⟨h.is.below hb h.is.lt, h.below.trans (hb.mono h.below.size), h.ge⟩
theorem Has.new {w0 w : World} (x : Int) (hb : Below w0.heap.size w0 w) : Has w0 w.heap.size x (w.alloc (C x)) :=
  ⟨Law.Is.new _ _ _ rfl, hb.alloc hb.size _, hb.size⟩
theorem Has.put {g : Nat} {w0 w : World} {x : Int} (h : Has w0 g x w) (y : Int) : Has w0 g y (w.setCell ⟨g, 0, none⟩ (.int .i64 y)) :=
  ⟨h.is.set 0 _ rfl, h.below.setCell (p := ⟨g, 0, none⟩) h.ge _, h.ge⟩
theorem Has.drewN {g : Nat} {w0 w : World} {x : Int} (h : Has w0 g x w) (n : Nat) : Has w0 g x (w.drewN n) :=
  ⟨h.is.drewN n, ⟨h.below.os, h.below.tape, h.below.output, h.below.size, h.below.block⟩, h.ge⟩
theorem freeB (x : Int) (r : Bool) (hr : (x == 0) = r) (w : World) : Calls Try.prog 14 #[K x] w fun e w' => e = .returned (.bool r) ∧ Below w.heap.size w w' :=
  (free x w).mono fun _ _ ⟨h, e⟩ => ⟨hr ▸ h, e ▸ one _ _⟩
theorem ownerB (x : Int) (h : Ok x) (y : Int) (hy : x - 1 = y) (w : World) : Calls Try.prog 13 #[K x] w fun e w' => e = .returned (.int .i64 y) ∧ Below w.heap.size w w' :=
  (owner x h w).mono fun _ _ ⟨h, e⟩ => ⟨hy ▸ h, e ▸ one _ _⟩
theorem take1 (x a y : Int) (b : Bool) (hr : tk x a = (y, b)) (w : World) : Calls Try.prog 11 #[K x, .int .i64 a] w fun e w' => e = .returned (.tuple #[K y, .bool b]) ∧ Below w.heap.size w w' := by
  have h := take x a w; rw [hr] at h; exact h
theorem give1 (x a : Int) (hx : Ok x) (y : Int) (b : Bool) (hr : gv x a = (y, b)) (w : World) : Calls Try.prog 9 #[K x, .int .i64 a] w fun e w' => e = .returned (.tuple #[K y, .bool b]) ∧ Below w.heap.size w w' := by
  have h := give x a hx w; rw [hr] at h; exact h
set_option maxRecDepth 100000 in
set_option maxHeartbeats 1600000 in
theorem awake (w : World) : Calls Try.prog 8 #[] w fun e w' => e = .returned (.bool true) ∧ Below w.heap.size w w' := by
  have H0 := Lib.hid (Has.new 0 (Below.refl w.heap.size w))
  have c0 := H0.out.c0
  have l0 := H0.out.lt
  go_enter Try.func8, Try.ntmps8
  go_wp2_with fail
  generalize w.alloc (C 0) = w1 at *
  refine (take1 0 2 3 true (by decide) w1).mono ?_
  rintro e w2 ⟨rfl, b2⟩
  have H2 := Lib.hid ((H0.out.next b2).next (one _ (C 3)))
  have A2 := Lib.hid (Has.new 3 (H0.out.next b2).below)
  clear b2 H0 c0 l0
  have c0 := A2.out.c0
  have l0 := A2.out.lt
  go_wp2_with fail
  generalize w2.alloc (C 3) = w3 at *
  refine (take1 3 3 3 false (by decide) w3).mono ?_
  rintro e w4 ⟨rfl, b4⟩
  have H4 := Lib.hid ((H2.out.next b4).next (one _ (C 3)))
  have A4 := Lib.hid (Has.new 3 (H2.out.next b4).below)
  clear b4 H2 A2 c0 l0
  have c0 := H4.out.c0
  have l0 := H4.out.lt
  have c1 := A4.out.c0
  have l1 := A4.out.lt
  go_wp2_with fail
  generalize w4.alloc (C 3) = w5 at *
  refine (freeB 0 true (by decide) w5).mono ?_
  rintro e w6 ⟨rfl, b6⟩
  have A6 := Lib.hid (A4.out.next b6)
  clear b6 H4 A4 c0 l0 c1 l1
  have c1 := A6.out.c0
  have l1 := A6.out.lt
  go_wp2_with fail
  refine (ownerB 3 (by unfold Ok; omega) 2 (by decide) _).mono ?_
  rintro e w7 ⟨rfl, b7⟩
  have A7 := Lib.hid (A6.out.next b7)
  clear b7 A6 c1 l1
  have c1 := A7.out.c0
  have l1 := A7.out.lt
  go_wp2_with fail
  refine (freeB 3 false (by decide) _).mono ?_
  rintro e w8 ⟨rfl, b8⟩
  have A8 := Lib.hid (A7.out.next b8)
  clear b8 A7 c1 l1
  go_wp2_with fail
  go_ret
  exact ⟨rfl, A8.out.below⟩
/-- the reference's -/
def own (o a : Int) : Int × Int := if decide (o < 0) && decide (0 ≤ a) then (a, 1) else (o, 0)
def giv (o a : Int) : Int × Int := if decide (0 ≤ o) && o == a then (-1, 1) else (o, 0)
set_option maxHeartbeats 800000 in
theorem refTake (o a : Int) (w : World) : Calls Try.prog 12 #[.int .i64 o, .int .i64 a] w fun e w' => e = .returned (.tuple #[.int .i64 (own o a).1, .int .i64 (own o a).2]) ∧ w = w' := by
  cases d0 : decide (o < 0) <;> cases d1 : decide (0 ≤ a)
  · rw [show own o a = (o, 0) by unfold own; rw [d0, d1]; rfl]
    go_enter Try.func12, Try.ntmps12
    go_wp2_with fail
    exact bodyPost_ret (v := .tuple #[.int .i64 (o), .int .i64 0]) (by simp [results, Try.results12, go_sem]) rfl ⟨rfl, rfl⟩
  · rw [show own o a = (o, 0) by unfold own; rw [d0, d1]; rfl]
    go_enter Try.func12, Try.ntmps12
    go_wp2_with fail
    exact bodyPost_ret (v := .tuple #[.int .i64 (o), .int .i64 0]) (by simp [results, Try.results12, go_sem]) rfl ⟨rfl, rfl⟩
  · rw [show own o a = (o, 0) by unfold own; rw [d0, d1]; rfl]
    go_enter Try.func12, Try.ntmps12
    go_wp2_with fail
    exact bodyPost_ret (v := .tuple #[.int .i64 (o), .int .i64 0]) (by simp [results, Try.results12, go_sem]) rfl ⟨rfl, rfl⟩
  · rw [show own o a = (a, 1) by unfold own; rw [d0, d1]; rfl]
    go_enter Try.func12, Try.ntmps12
    go_wp2_with fail
    exact bodyPost_ret (v := .tuple #[.int .i64 (a), .int .i64 1]) (by simp [results, Try.results12, go_sem]) rfl ⟨rfl, rfl⟩
set_option maxHeartbeats 800000 in
theorem refGive (o a : Int) (w : World) : Calls Try.prog 10 #[.int .i64 o, .int .i64 a] w fun e w' => e = .returned (.tuple #[.int .i64 (giv o a).1, .int .i64 (giv o a).2]) ∧ w = w' := by
  cases d0 : decide (0 ≤ o) <;> cases d1 : (o == a)
  · rw [show giv o a = (o, 0) by unfold giv; rw [d0, d1]; rfl]
    go_enter Try.func10, Try.ntmps10
    go_wp2_with fail
    exact bodyPost_ret (v := .tuple #[.int .i64 (o), .int .i64 0]) (by simp [results, Try.results10, go_sem]) rfl ⟨rfl, rfl⟩
  · rw [show giv o a = (o, 0) by unfold giv; rw [d0, d1]; rfl]
    go_enter Try.func10, Try.ntmps10
    go_wp2_with fail
    exact bodyPost_ret (v := .tuple #[.int .i64 (o), .int .i64 0]) (by simp [results, Try.results10, go_sem]) rfl ⟨rfl, rfl⟩
  · rw [show giv o a = (o, 0) by unfold giv; rw [d0, d1]; rfl]
    go_enter Try.func10, Try.ntmps10
    go_wp2_with fail
    exact bodyPost_ret (v := .tuple #[.int .i64 (o), .int .i64 0]) (by simp [results, Try.results10, go_sem]) rfl ⟨rfl, rfl⟩
  · rw [show giv o a = (-1, 1) by unfold giv; rw [d0, d1]; rfl]
    go_enter Try.func10, Try.ntmps10
    go_wp2_with fail
    exact bodyPost_ret (v := .tuple #[.int .i64 (-1), .int .i64 1]) (by simp [results, Try.results10, go_sem]) rfl ⟨rfl, rfl⟩
end Lt
end Go.Proofs.Ytnbnhkijmlbefaa
