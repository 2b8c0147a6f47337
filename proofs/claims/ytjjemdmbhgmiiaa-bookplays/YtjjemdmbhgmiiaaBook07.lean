/-
  The document's example of layer 8's statements.
-/
import Derived.Test.YtjjemdmbhgmiiaaBook06
import Derived.Lib.QuietBelow
import Derived.BigQuiet
namespace Go.Proofs.Ytjjemdmbhgmiiaa
open Go.RowKit
namespace Bk
open Go.Law Go.Proofs.Ytjjemdmbhgmiiaa.OmapB Door
def ann : ByteArray := ⟨#[97, 110, 110]⟩
def annOp : OpV := ⟨1, ann, 1, 3, 0, 5, .slice none 0 0⟩
theorem ann_b : wrB annOp 10 4 [] = [(ann, [(1, 3, 0, 15)], (3, 0, 1))] := by kernel_rfl
theorem ann_c : wrC annOp 10 4 [] = [(ann, (0, 0, 0), (3, 0, 1))] := by decide +kernel
theorem ann_e : wrE annOp 10 4 [] = 0 := by decide +kernel
theorem ann_s : sweepB 15 [(ann, [(1, 3, 0, 15)], (3, 0, 1))] = [] := by decide +kernel
theorem ann_t : sweepC 15 [(ann, [(1, 3, 0, 15)], (3, 0, 1))] = [(ann, (3, 0, 1), (0, 0, 0))] := by decide +kernel

theorem lenB {w : World} {p : Option Addr} {b : List (ByteArray × En)} (h : Booked w p b) :
    Calls Try.prog 25 #[M p] w fun e w' => e = .returned (.int .i64 (b.length : Int)) ∧ Below w.heap.size w w' := by
  obtain ⟨xs, h1, _, rfl⟩ := h
  refine (OmapB.len h1 (Nat.le_refl _)).mono ?_
  rintro e w' ⟨rfl, rfl⟩
  exact ⟨by rw [mapV_length], (Below.refl _ w).alloc (Nat.le_refl _) _⟩

set_option maxRecDepth 100000 in
set_option maxHeartbeats 4000000 in
theorem awake (w : World) : Calls Try.prog 9 #[] w fun e w' => e = .returned (.bool true) ∧ Below w.heap.size w w' := by
  have HB := Lib.hid (Below.refl w.heap.size w)
  have HWR : Hid (∀ W, Calls Try.prog 14 #[.agg #[.pointer none], .agg #[.int .i64 1, .string ⟨#[97, 110, 110]⟩, .int .i64 1, .int .i64 3, .int .i64 0, .int .u64 5, .slice none 0 0], .int .u64 10, .int .i64 4] W (Wrote W [(ann, [(1, 3, 0, 15)], (3, 0, 1))] [(ann, (0, 0, 0), (3, 0, 1))] 0)) := fun W => by
    have := write annOp 10 4 (w := W) (p := none) (b := []) (by unfold U Door.top; omega) (by unfold U Door.top annOp; simp) (Booked.nil W) (Book.nil lt) (by simp [sesK, getK]) (by simp)
    rw [ann_b, ann_c, ann_e] at this
    exact this
  have HSW : Hid (∀ W p, Booked W p [(ann, [(1, 3, 0, 15)], (3, 0, 1))] → Calls Try.prog 12 #[.agg #[.pointer p], .int .u64 15] W (Told W [] [(ann, (3, 0, 1), (0, 0, 0))])) := fun W p h => by
    have := sweep 15 h (by simp [Rises]) (by simp) (by simp)
    rw [ann_s, ann_t] at this
    exact this
  go_enter Try.func9, Try.ntmps9
  go_wp2_with fail
  have HI0 := Lib.hid (Is.new w 27 #[.pointer none] rfl)
  have bx := (Below.refl w.heap.size w).alloc (Nat.le_refl _) (.cells #[.pointer none] 27)
  replace HB := Lib.hid (HB.out.trans (bx.mono HB.out.size))
  generalize w.alloc (.cells #[.pointer none] 27) = w1 at *
  clear bx
  refine (HWR.out w1).mono ?_
  rintro e w2 ⟨p2, A2, c2, rfl, k2, q2, b1⟩
  replace HB := Lib.hid (HB.out.trans (b1.mono HB.out.size))
  have HK := Lib.hid k2
  have HQ := Lib.hid q2
  clear b1 k2 q2 HWR
  go_wp2_with fail
  have HI2 := Lib.hid (Is.new w2 27 #[.pointer p2] rfl)
  have bx := (Below.refl w2.heap.size w2).alloc (Nat.le_refl _) (.cells #[.pointer p2] 27)
  replace HB := Lib.hid (HB.out.trans (bx.mono HB.out.size))
  replace HK := Lib.hid (HK.out.now bx)
  replace HQ := Lib.hid (HQ.out.now bx)
  generalize w2.alloc (.cells #[.pointer p2] 27) = w3 at *
  clear bx
  refine (HSW.out w3 p2 HK.out).mono ?_
  rintro e w4 ⟨p4, A4, c4, rfl, k4, q4, b1⟩
  replace HB := Lib.hid (HB.out.trans (b1.mono HB.out.size))
  replace HQ := Lib.hid (HQ.out.now b1)
  have HK4 := Lib.hid k4
  have HQ4 := Lib.hid q4
  clear b1 k4 q4 HSW HK HI2 HI0
  obtain ⟨b2, o2, rfl, _, l2, _, _, _, _, x4, _, x6⟩ := HQ.out.seq.ch (i := 0) (by simp)
  obtain ⟨b4, o4, rfl, _, l4, _, _, _, _, _, _, y6⟩ := HQ4.out.seq.ch (i := 0) (by simp)
  simp only [List.getElem_cons_zero, Nat.zero_mul, Nat.add_zero] at x4 x6 y6
  go_wp2_with fail
  have HI4 := Lib.hid (Is.new w4 27 #[.pointer p4] rfl)
  have bx := (Below.refl w4.heap.size w4).alloc (Nat.le_refl _) (.cells #[.pointer p4] 27)
  replace HB := Lib.hid (HB.out.trans (bx.mono HB.out.size))
  replace HK4 := Lib.hid (HK4.out.now bx)
  generalize w4.alloc (.cells #[.pointer p4] 27) = w5 at *
  clear bx
  refine (lenB HK4.out).mono ?_
  rintro e w6 ⟨rfl, b1⟩
  replace HB := Lib.hid (HB.out.trans (b1.mono HB.out.size))
  clear b1
  go_wp2_with fail
  go_ret
  exact ⟨rfl, HB.out⟩
end Bk
end Go.Proofs.Ytjjemdmbhgmiiaa
