/-
  The place of a field of no cells in a node of a map of texts to nothing.
-/
import Derived.Test.YtdkjcheannehhaaGreatBase
import Derived.Test.YtdkjcheannehhaaGreatTrees0
import Derived.WalkKit
namespace Go.Proofs.YtdkjcheannehhaaGreat
open Go.RowKit
namespace OmapU
/-- a part of no cells is set -/
@[go_sem] theorem no_cells (n : Nat) (cs : Array Value) : Array.foldl (fun cs x => cs.setIfInBounds (n + x.snd) x.fst) cs (#[] : Array Value).zipIdx 0 0 = cs := rfl
/-- the value's place in the node at b -/
abbrev Part (w : World) (b : Nat) : Prop := (partAt ⟨b, 0, none⟩ 1 16).run Tryz.prog w = .ok ⟨b, 1, none⟩ w
theorem part_of {w : World} {b : Nat} {k l r s : Value} (h : Law.Is w b 205 #[k, l, r, s]) : Part w b := by
  unfold Law.Is at h
  have e0 : Tryz.prog.cellsOf 205 = 4 := by kernel_rfl
  have e1 : Tryz.prog.bytesOf 205 = 40 := by kernel_rfl
  have e2 : byteOfCell Tryz.prog Tryz.prog.depth 205 0 = some 0 := by kernel_rfl
  have e3 : byteOfCell Tryz.prog Tryz.prog.depth 205 1 = some 16 := by kernel_rfl
  have e4 : ∀ g : Option (TypeId × Nat) → Sem (Option (TypeId × Nat)), (Sem.shape b g).run Tryz.prog w = (g (w.shape? b)).run Tryz.prog w := fun g => rfl
  have e5 : w.shape? b = some (205, 4) := by simp [World.shape?, h]
  simp [Part, partAt, byteOf, noView, viewAt, shape, getObj, go_sem, e0, e1, e2, e3, e4, e5]
/-- a node lies at b -/
def Val (w : World) (b : Nat) (_ : Int) : Prop := ∃ k l r s, Law.Is w b 205 #[k, l, r, s]
theorem val_of {w : World} {b : Nat} {k : ByteArray} {v : Int} {ls rs : List (ByteArray × Int)} {l r : Value} (h : Law.Is w b 205 #[.string k, l, r, .int .i64 ((ls ++ (k, v) :: rs).length : Int)]) : Val w b v := ⟨_, _, _, _, h⟩
theorem Val.part {w : World} {b : Nat} {v : Int} (h : Val w b v) : Part w b := by obtain ⟨_, _, _, _, h⟩ := h; exact part_of h
/-- all that lay in W lies in w as it lay -/
def Kept (W w : World) : Prop := Below W.heap.size W w
theorem Kept.drew (W : World) : Kept W (W.drewN 1) := Law.below_drewN (Below.refl _ W) 1
theorem Kept.cell {W w : World} (K : Kept W w) {b i : Nat} {u : Value} (hb : b < W.heap.size) (h : W.cell? ⟨b, i, none⟩ = some u) : w.cell? ⟨b, i, none⟩ = some u := (Below.cell K (p := ⟨b, i, none⟩) hb).trans h
theorem Kept.val {W w : World} (K : Kept W w) {b : Nat} {v : Int} (h : Val W b v) : Val w b v := by obtain ⟨_, _, _, _, h⟩ := h; exact ⟨_, _, _, _, h.below K h.lt⟩
end OmapU
end Go.Proofs.YtdkjcheannehhaaGreat
