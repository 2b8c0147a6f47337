/-
  A variable that holds a map of texts (layer 4): what stores and calls leave of it.
-/
import Derived.Test.YtekkddejgkmofaaOmap01
import Derived.Test.YtekkddejgkmofaaOmapSA
import Derived.StillTailTactics
namespace Go.Proofs.Ytekkddejgkmofaa
open Go.RowKit
namespace Omap
/-- block b is a variable that holds a map of these pairs -/
def Var (w : World) (b : Nat) (xs : List (ByteArray × Int)) : Prop := ∃ p, Law.Is w b 27 #[.pointer p] ∧ OmapS.At w w.heap.size p xs ∧ Law.Rises OmapS.lt xs
theorem Var.below {w w' : World} {b : Nat} {xs : List (ByteArray × Int)} (h : Var w b xs) (hb : Below w.heap.size w w') : Var w' b xs := by
  obtain ⟨p, hi, ht, hr⟩ := h
  exact ⟨p, hi.below hb hi.lt, (ht.under hb).wide hb.size, hr⟩
theorem Var.new (w : World) {b : Nat} (hb : b = w.heap.size) : Var (w.alloc (.cells #[.pointer none] 27)) b [] := ⟨none, Law.Is.new _ _ _ hb, .nil, Law.Rises.nil⟩
theorem Var.of {w : World} {b : Nat} {p0 p : Option Addr} {zs : List (ByteArray × Int)} (h : Law.Is w b 27 #[.pointer p0]) (ht : OmapS.At w w.heap.size p zs) (hr : Law.Rises OmapS.lt zs) : Var (w.setCell ⟨b, 0, none⟩ (.pointer p)) b zs :=
  ⟨p, h.set 0 _ rfl, by have := ht.far (i := 0) h (by decide) (.pointer p); rwa [show w.heap.size = (w.setCell ⟨b, 0, none⟩ (.pointer p)).heap.size by simp] at this, hr⟩
/-- a store into a block of another type -/
theorem Var.far {w : World} {b : Nat} {xs : List (ByteArray × Int)} (h : Var w b xs) {g i : Nat} {t : TypeId} {cs : Array Value} (hg : Law.Is w g t cs) (h1 : 69 ≠ t) (h2 : b ≠ g) (u : Value) : Var (w.setCell ⟨g, i, none⟩ u) b xs := by
  obtain ⟨p, hi, ht, hr⟩ := h
  exact ⟨p, hi.far (p := ⟨g, i, none⟩) h2 u, by have := ht.far (i := i) hg h1 u; rwa [show w.heap.size = (w.setCell ⟨g, i, none⟩ u).heap.size by simp] at this, hr⟩
theorem Var.lt {w : World} {b : Nat} {xs : List (ByteArray × Int)} (h : Var w b xs) : b < w.heap.size := by
  obtain ⟨p, hi, _⟩ := h
  exact hi.lt
end Omap
end Go.Proofs.Ytekkddejgkmofaa
