/-
  What the calls of an ordered map (layer 4) of texts to nothing come to: With, Without, Get, Len, All, Keys.
-/
import Derived.Test.YtdkjcheannehhaaGreatOmapUW
import Derived.Shelf.Abstract
namespace Go.Proofs.YtdkjcheannehhaaGreat
open Go.RowKit Go.Shelf
attribute [local go_sem] Oper.semAt_some
namespace OmapU
/-- a map -/
abbrev M (p : Option Addr) : Value := .agg #[.pointer p]
/-- behind what makes a map of these pairs -/
def MadeM (w : World) (zs : List (ByteArray × Int)) (e : Ending) (w' : World) : Prop := ∃ p, e = .returned (M p) ∧ At w' w'.heap.size p zs ∧ Below w.heap.size w w'

set_option maxHeartbeats 1000000 in
theorem withM (k : ByteArray) (v : Int) {w : World} {B : Nat} {p : Option Addr} {xs : List (ByteArray × Int)} (h : At w B p xs) (hB : B ≤ w.heap.size) (hR : Law.Rises lt xs) (hx : xs.length ≤ 999) :
    Calls Tryz.prog 116 #[M p, .string k, .agg #[]] w (MadeM w (Law.putK lt k v xs)) := by
  have H := Lib.hid h
  have HR := Lib.hid hR
  clear h hR
  go_enter Tryz.func116, Tryz.ntmps116
  go_wp2_with fail
  have B0 : Below w.heap.size w (((w.alloc (.cells #[.pointer p] 126)).alloc (.cells #[] 166)).alloc (.cells #[.pointer none] 126)) := (((Below.refl _ w).alloc (Nat.le_refl _) _).alloc (by simp) _).alloc (by simp; omega) _
  refine (with_ k v xs.length _ B p xs (Nat.le_refl _) (H.out.under (B0.mono hB)) (by simp; omega) HR.out hx).mono ?_
  rintro e w1 ⟨p1, rfl, t1, b1⟩
  have I1 : Law.Is w1 (w.heap.size + 1 + 1) 126 #[.pointer none] := (Law.Is.new ((w.alloc (.cells #[.pointer p] 126)).alloc (.cells #[] 166)) 126 #[.pointer none] (by simp)).below b1 (by simp)
  have c0 := I1.cell 0
  have f0 := I1.frozen 0
  have l0 := I1.lt
  simp only [List.getElem?_toArray, List.getElem?_cons_zero] at c0
  have hb : Below w.heap.size w w1 := B0.trans (b1.mono (by simp; omega))
  have T1 := Lib.hid t1
  have HB := Lib.hid hb
  have HI := Lib.hid I1
  clear t1 hb b1 I1 B0
  go_wp2_with fail
  have T2 := Lib.hid (T1.out.far (i := 0) HI.out (by decide) (.pointer p1))
  have I2 : Law.Is (w1.setCell ⟨w.heap.size + 1 + 1, 0, none⟩ (.pointer p1)) (w.heap.size + 1 + 1) 126 #[.pointer p1] := HI.out.set 0 _ rfl
  have c2 : (w1.setCell ⟨w.heap.size + 1 + 1, 0, none⟩ (.pointer p1)).cell? ⟨w.heap.size + 1 + 1, 0, none⟩ = some (Value.pointer p1) := (I2.cell 0).trans rfl
  have B2 := Lib.hid (HB.out.setCell (p := ⟨w.heap.size + 1 + 1, 0, none⟩) (by simp; omega) (.pointer p1))
  have e2 : w1.heap.size = (w1.setCell ⟨w.heap.size + 1 + 1, 0, none⟩ (.pointer p1)).heap.size := by simp
  rw [e2] at T2
  clear c0 f0 l0 T1 HB HI e2 I2
  generalize w1.setCell ⟨w.heap.size + 1 + 1, 0, none⟩ (.pointer p1) = w2 at *
  exact bodyPost_ret (v := M p1) (by simp [results, Tryz.results116, go_sem, c2]) rfl ⟨p1, rfl, T2.out, B2.out⟩

set_option maxHeartbeats 1000000 in
theorem withoutM (k : ByteArray) {w : World} {B : Nat} {p : Option Addr} {xs : List (ByteArray × Int)} (h : At w B p xs) (hB : B ≤ w.heap.size) (hR : Law.Rises lt xs) (hx : xs.length ≤ 999) :
    Calls Tryz.prog 96 #[M p, .string k] w (MadeM w (Law.outK k xs)) := by
  have H := Lib.hid h
  have HR := Lib.hid hR
  clear h hR
  go_enter Tryz.func96, Tryz.ntmps96
  go_wp2_with fail
  have B0 : Below w.heap.size w ((w.alloc (.cells #[.pointer p] 126)).alloc (.cells #[.pointer none] 126)) := ((Below.refl _ w).alloc (Nat.le_refl _) _).alloc (by simp) _
  refine (without xs.length k _ B p xs (Nat.le_refl _) (H.out.under (B0.mono hB)) (by simp; omega) HR.out hx).mono ?_
  rintro e w1 ⟨p1, rfl, t1, b1⟩
  have I1 : Law.Is w1 (w.heap.size + 1) 126 #[.pointer none] := (Law.Is.new (w.alloc (.cells #[.pointer p] 126)) 126 #[.pointer none] (by simp)).below b1 (by simp)
  have c0 := I1.cell 0
  have f0 := I1.frozen 0
  have l0 := I1.lt
  simp only [List.getElem?_toArray, List.getElem?_cons_zero] at c0
  have hb : Below w.heap.size w w1 := B0.trans (b1.mono (by simp; omega))
  have T1 := Lib.hid t1
  have HB := Lib.hid hb
  have HI := Lib.hid I1
  clear t1 hb b1 I1 B0
  go_wp2_with fail
  have T2 := Lib.hid (T1.out.far (i := 0) HI.out (by decide) (.pointer p1))
  have I2 : Law.Is (w1.setCell ⟨w.heap.size + 1, 0, none⟩ (.pointer p1)) (w.heap.size + 1) 126 #[.pointer p1] := HI.out.set 0 _ rfl
  have c2 : (w1.setCell ⟨w.heap.size + 1, 0, none⟩ (.pointer p1)).cell? ⟨w.heap.size + 1, 0, none⟩ = some (Value.pointer p1) := (I2.cell 0).trans rfl
  have B2 := Lib.hid (HB.out.setCell (p := ⟨w.heap.size + 1, 0, none⟩) (Nat.le_succ _) (.pointer p1))
  have e2 : w1.heap.size = (w1.setCell ⟨w.heap.size + 1, 0, none⟩ (.pointer p1)).heap.size := by simp
  rw [e2] at T2
  clear c0 f0 l0 T1 HB HI e2 I2
  generalize w1.setCell ⟨w.heap.size + 1, 0, none⟩ (.pointer p1) = w2 at *
  exact bodyPost_ret (v := M p1) (by simp [results, Tryz.results96, go_sem, c2]) rfl ⟨p1, rfl, T2.out, B2.out⟩

set_option maxHeartbeats 1000000 in
theorem get (k : ByteArray) {w : World} {B : Nat} {p : Option Addr} {xs : List (ByteArray × Int)} (h : At w B p xs) (hB : B ≤ w.heap.size) (hR : Law.Rises lt xs) :
    Calls Tryz.prog 114 #[M p, .string k] w fun e w' => e = .returned (.tuple #[.agg #[], .bool (Law.getK k xs).isSome]) ∧ Below w.heap.size w w' := by
  have H := Lib.hid h
  have HR := Lib.hid hR
  clear h hR
  go_enter Tryz.func114, Tryz.ntmps114
  go_wp2_with fail
  have B0 : Below w.heap.size w ((w.alloc (.cells #[.pointer p] 126)).alloc (.cells #[] 166)) := ((Below.refl _ w).alloc (Nat.le_refl _) _).alloc (by simp) _
  refine (find k (H.out.under (B0.mono hB)) HR.out).mono ?_
  have HB := Lib.hid B0
  clear B0
  rintro e w1 ⟨rfl, ⟨rfl, hg⟩ | ⟨b, u, rfl, hb, c1, hg⟩⟩
  · have HG := Lib.hid hg
    clear hg
    go_wp2_with fail
    exact bodyPost_ret (v := .tuple #[.agg #[], .bool false]) (by simp [results, Tryz.results114, go_sem]) rfl ⟨by rw [HG.out]; rfl, HB.out.alloc (by simp; omega) _⟩
  · have c2 := c1.part
    have HG := Lib.hid hg
    clear hg
    go_wp2_with fail
    exact bodyPost_ret (v := .tuple #[.agg #[], .bool true]) (by simp [results, Tryz.results114, go_sem]) rfl ⟨by rw [HG.out]; rfl, ((Below.refl _ w).alloc (Nat.le_refl _) _).alloc (by simp) _⟩

set_option maxHeartbeats 1000000 in
theorem len {w : World} {B : Nat} {p : Option Addr} {xs : List (ByteArray × Int)} (h : At w B p xs) (hB : B ≤ w.heap.size) :
    Calls Tryz.prog 126 #[M p] w fun e w' => e = .returned (.int .i64 (xs.length : Int)) ∧ w.alloc (.cells #[.pointer p] 126) = w' := by
  have H := Lib.hid h
  clear h
  go_enter Tryz.func126, Tryz.ntmps126
  go_wp2_with fail
  refine (count (H.out.under (((Below.refl _ w).alloc (Nat.le_refl _) _).mono hB))).mono ?_
  rintro e w1 ⟨rfl, rfl⟩
  go_wp2_with fail
  go_ret
  exact ⟨rfl, rfl⟩

end OmapU
end Go.Proofs.YtdkjcheannehhaaGreat
