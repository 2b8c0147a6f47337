/-
  Cells that lie in a block of one type: as long as no block of that type turns, they lie as they lay. General over programs.
-/
import Derived.Test.YtlkbfnpncomifaaDoorTrees
namespace Go.Law
open Go.RowKit
/-- these cells lie at A, in a block of type t -/
def Lain (t : TypeId) (w : World) (A : Option Addr) (xs : List Value) : Prop := xs ≠ [] → ∃ g off cs, A = some ⟨g, off, none⟩ ∧ Is w g t cs ∧ ∀ (i : Nat) u, xs[i]? = some u → cs[off + i]? = some u
section
variable {t : TypeId} {w w' : World} {A : Option Addr} {xs : List Value}
theorem Lain.nil : Lain t w A [] := fun h => absurd rfl h
theorem Lain.seq (h : Lain t w A xs) : Seq w 0 w.heap.size A xs := fun hn => by
  obtain ⟨g, off, cs, e, hi, hc⟩ := h hn
  exact ⟨g, off, e, Nat.zero_le _, hi.lt, fun i u hu => (hi.cell _).trans (hc i u hu)⟩
theorem Lain.keeps (h : Lain t w A xs) (hk : Keeps t w w') : Lain t w' A xs := fun hn => by
  obtain ⟨g, off, cs, e, hi, hc⟩ := h hn
  exact ⟨g, off, cs, e, hk.is hi, hc⟩
theorem Lain.now (h : Lain t w A xs) (hb : Below w.heap.size w w') : Lain t w' A xs := h.keeps (Keeps.of_below hb)
theorem Lain.is {g : Nat} {cs : Array Value} (h : Is w g t cs) (e : cs.toList = xs) : Lain t w (some ⟨g, 0, none⟩) xs := fun _ => ⟨g, 0, cs, rfl, h, fun i u hu => by subst e; simpa using hu⟩
theorem Lain.own {base size n c : Nat} (h : w.ownsRow base t size (.slice A n c) n xs) : Lain t w A xs := fun hn => by
  rcases h.2 with ⟨h1, h2⟩ | ⟨k, cap, cur, hv, hk, hh, hr⟩
  · exact absurd (List.eq_nil_of_length_eq_zero (by rw [h.1, h2]; simp)) hn
  · injection hv with hA
    subst hA
    refine ⟨k, 0, cur, rfl, hh, fun i u hu => ?_⟩
    rw [← hr.2.2.2] at hu
    rw [List.getElem?_take] at hu
    split at hu
    · rw [Nat.zero_add]; simpa using hu
    · cases hu
end
end Go.Law
