/-
  The statements' example of layer 5 (cell).
-/
import Derived.Test.YtkfhkipilldhoaaCell01
import Derived.Deep.RegionHeld3
import Derived.Deep.DeepCutAuto
import Derived.Deep.LoopGhost
namespace Go.Proofs.Ytkfhkipilldhoaa
open Go.RowKit
namespace Cell
open Door
/-- block g holds the epoch v up to B; nothing of w0 has turned -/
structure Has (w0 : World) (g : Nat) (v B : Int) (w : World) : Prop where
  is : Law.Is w g 26 (cs v B)
  below : Below w0.heap.size w0 w
  ge : w0.heap.size ≤ g
theorem Has.c0 {g : Nat} {w0 w : World} {v B : Int} (h : Has w0 g v B w) : w.cell? ⟨g, 0, none⟩ = some (.int .u64 v) := h.is.cell' rfl
theorem Has.c1 {g : Nat} {w0 w : World} {v B : Int} (h : Has w0 g v B w) : w.cell? ⟨g, 1, none⟩ = some (.int .u64 B) := h.is.cell' rfl
theorem Has.lt {g : Nat} {w0 w : World} {v B : Int} (h : Has w0 g v B w) : g < w.heap.size := h.is.lt
theorem Has.next {g : Nat} {w0 w w' : World} {v B : Int} (h : Has w0 g v B w) (hb : Below w.heap.size w w') : Has w0 g v B w' :=
  ⟨h.is.below hb h.is.lt, h.below.trans (hb.mono h.below.size), h.ge⟩
theorem Has.new {w0 w : World} (v B : Int) (hb : Below w0.heap.size w0 w) : Has w0 w.heap.size v B (w.alloc (C v B)) :=
  ⟨Law.Is.new _ _ _ rfl, hb.alloc hb.size _, hb.size⟩
/-- an epoch is stored -/
theorem Has.put {g : Nat} {w0 w : World} {v B : Int} (h : Has w0 g v B w) (v' B' : Int) : Has w0 g v' B' ((w.setCell ⟨g, 0, none⟩ (.int .u64 v')).setCell ⟨g, 1, none⟩ (.int .u64 B')) :=
  ⟨(h.is.set 0 _ rfl).set 1 _ rfl, (h.below.setCell (p := ⟨g, 0, none⟩) h.ge _).setCell (p := ⟨g, 1, none⟩) h.ge _, h.ge⟩
/-- another one is stored -/
theorem Has.far {g k : Nat} {w0 w : World} {v B : Int} (h : Has w0 g v B w) (hne : g ≠ k) (hk : w0.heap.size ≤ k) (v' B' : Int) : Has w0 g v B ((w.setCell ⟨k, 0, none⟩ (.int .u64 v')).setCell ⟨k, 1, none⟩ (.int .u64 B')) :=
  ⟨(h.is.far (p := ⟨k, 0, none⟩) hne _).far (p := ⟨k, 1, none⟩) hne _, (h.below.setCell (p := ⟨k, 0, none⟩) hk _).setCell (p := ⟨k, 1, none⟩) hk _, h.ge⟩
theorem Has.drewN {g : Nat} {w0 w : World} {v B : Int} (h : Has w0 g v B w) (n : Nat) : Has w0 g v B (w.drewN n) :=
  ⟨h.is.drewN n, ⟨h.below.os, h.below.tape, h.below.output, h.below.size, h.below.block⟩, h.ge⟩
/-- w' has all that w has -/
def Kp (w w' : World) : Prop := Below w.heap.size w w'
theorem Kp.drew (w : World) : Kp w (w.drewN 1) := ⟨rfl, rfl, rfl, Nat.le_refl _, fun _ _ => rfl⟩
theorem Kp.next {w w1 w2 : World} (h : Kp w w1) (h2 : Below w1.heap.size w1 w2) : Kp w w2 := h.trans (h2.mono h.size)
theorem Kp.c {w w' : World} {g i : Nat} {u : Value} (h : Kp w w') (hl : g < w.heap.size) (hc : w.cell? ⟨g, i, none⟩ = some u) : w'.cell? ⟨g, i, none⟩ = some u := (Below.cell (p := ⟨g, i, none⟩) h hl).trans hc
theorem begin1 (v B r : Int) (h : Ok v B) (hr : beg v B = r) (w : World) :
    Calls Try.prog 10 #[K v B] w fun e w' => e = .returned (K r B) ∧ Below w.heap.size w w' := hr ▸ begin_ v B h w
theorem end1 (v B r : Int) (h : Ok v B) (hr : fin v = r) (w : World) :
    Calls Try.prog 12 #[K v B] w fun e w' => e = .returned (K r B) ∧ Below w.heap.size w w' := hr ▸ end_ v B h w
theorem writing1 (v B : Int) (r : Bool) (h : U v) (hr : (v % 2 == 1) = r) (w : World) :
    Calls Try.prog 17 #[K v B] w fun e w' => e = .returned (.bool r) ∧ Below w.heap.size w w' := hr ▸ writing v B h w
theorem spent1 (v B : Int) (r : Bool) (hr : (v == B) = r) (w : World) :
    Calls Try.prog 15 #[K v B] w fun e w' => e = .returned (.bool r) ∧ Below w.heap.size w w' := hr ▸ spent v B w
theorem new1 (a r : Int) (ha : U a) (hr : ev a = r) (w : World) :
    Calls Try.prog 9 #[.int .u64 a] w fun e w' => e = .returned (K 0 r) ∧ Below w.heap.size w w' := hr ▸ new a ha w
/-- the calls that only look, from a world that has all that w has -/
theorem valueK (w : World) : ∀ (v B : Int) (w' : World), Kp w w' → Calls Try.prog 14 #[K v B] w' fun e w'' => e = .returned (.int .u64 v) ∧ Kp w w'' :=
  fun v B w' h => (value v B w').mono fun _ _ ⟨h1, h2⟩ => ⟨h1, h.next h2⟩
theorem spentK (w : World) : ∀ (v B : Int) (w' : World), Kp w w' → Calls Try.prog 15 #[K v B] w' fun e w'' => e = .returned (.bool (v == B)) ∧ Kp w w'' :=
  fun v B w' h => (spent v B w').mono fun _ _ ⟨h1, h2⟩ => ⟨h1, h.next h2⟩
theorem writingK (w : World) (v : Int) (hv : U v) : ∀ (B : Int) (w' : World), Kp w w' → Calls Try.prog 17 #[K v B] w' fun e w'' => e = .returned (.bool (v % 2 == 1)) ∧ Kp w w'' :=
  fun B w' h => (writing v B hv w').mono fun _ _ ⟨h1, h2⟩ => ⟨h1, h.next h2⟩
set_option maxRecDepth 100000 in
set_option maxHeartbeats 1600000 in
theorem awake (w : World) : Calls Try.prog 8 #[] w fun e w' => e = .returned (.bool true) ∧ Below w.heap.size w w' := by
  have o0 : Ok 0 2 := ⟨by decide, by decide, by decide, by decide⟩
  have o1 : Ok 1 2 := ⟨by decide, by decide, by decide, by decide⟩
  have o2 : Ok 2 2 := ⟨by decide, by decide, by decide, by decide⟩
  have HO := Lib.hid (And.intro o0 (And.intro o1 o2))
  clear o0 o1 o2
  go_enter Try.func8, Try.ntmps8
  go_wp2_with fail
  refine (new1 2 2 HO.out.2.2.U (by decide) w).mono ?_
  rintro e w1 ⟨rfl, b1⟩
  have HB1 := Lib.hid b1
  clear b1
  go_wp2_with fail
  refine (begin1 0 2 1 HO.out.1 (by decide) w1).mono ?_
  rintro e w2 ⟨rfl, b2⟩
  have H2 := Lib.hid (Has.new 1 2 (HB1.out.trans (b2.mono HB1.out.size)))
  clear b2 HB1
  go_wp2_with fail
  refine (end1 1 2 2 HO.out.2.1 (by decide) _).mono ?_
  rintro e w3 ⟨rfl, b3⟩
  have H3 := Lib.hid (H2.out.next b3)
  clear b3 H2
  have D4 := Lib.hid (Has.new 2 2 H3.out.below)
  have H4 := Lib.hid (H3.out.next (one _ (C 2 2)))
  have c0 := H4.out.c0
  have c1 := H4.out.c1
  have l0 := H4.out.lt
  have d0 := D4.out.c0
  have d1 := D4.out.c1
  have m0 := D4.out.lt
  clear H3
  generalize w2.heap.size = g at *
  go_wp2_with fail
  generalize w3.alloc (C 2 2) = w4 at *
  generalize w3.heap.size = k at *
  refine (value 1 2 _).mono ?_
  rintro e w5 ⟨rfl, b5⟩
  have H5 := Lib.hid (H4.out.next b5)
  have D5 := Lib.hid (D4.out.next b5)
  clear b5 c0 c1 l0 d0 d1 m0 H4 D4
  have c0 := H5.out.c0
  have c1 := H5.out.c1
  have l0 := H5.out.lt
  have d0 := D5.out.c0
  have d1 := D5.out.c1
  have m0 := D5.out.lt
  go_wp2_with fail
  refine (writing1 1 2 true HO.out.2.1.U (by decide) _).mono ?_
  rintro e w6 ⟨rfl, b6⟩
  have D6 := Lib.hid (D5.out.next b6)
  clear b6 c0 c1 l0 d0 d1 m0 H5 D5
  have d0 := D6.out.c0
  have d1 := D6.out.c1
  have m0 := D6.out.lt
  go_wp2_with fail
  refine (value 2 2 _).mono ?_
  rintro e w7 ⟨rfl, b7⟩
  have D7 := Lib.hid (D6.out.next b7)
  clear b7 d0 d1 m0 D6
  have d0 := D7.out.c0
  have d1 := D7.out.c1
  have m0 := D7.out.lt
  go_wp2_with fail
  refine (spent1 2 2 true (by decide) _).mono ?_
  rintro e w8 ⟨rfl, b8⟩
  have D8 := Lib.hid (D7.out.next b8)
  clear b8 d0 d1 m0 D7
  have d0 := D8.out.c0
  have d1 := D8.out.c1
  have m0 := D8.out.lt
  go_wp2_with fail
  refine (begin1 2 2 2 HO.out.2.2 (by decide) _).mono ?_
  rintro e w9 ⟨rfl, b9⟩
  have D9 := Lib.hid (D8.out.next b9)
  clear b9 d0 d1 m0 D8
  go_wp2_with fail
  refine (value 2 2 _).mono ?_
  rintro e w10 ⟨rfl, b10⟩
  have D10 := Lib.hid (D9.out.next b10)
  clear b10 D9
  go_wp2_with fail
  go_ret
  exact ⟨rfl, D10.out.below⟩
end Cell
end Go.Proofs.Ytkfhkipilldhoaa
