/-
  What the listed variable holds (layer 12): the names that a byte may tell.
-/
import Derived.Test.YtlkbfnpncomifaaDoorBase
import Derived.Test.YtlkbfnpncomifaaDoorTie
import Derived.Test.YtlkbfnpncomifaaDoorCards
import Derived.Test.YtlkbfnpncomifaaDoorOcL
import Derived.PinnedBridge
import Derived.Lib.AppendIntMem
import Derived.Lay
import Derived.LaidOnce
import Derived.SevenTiedAt
namespace Go.Proofs.YtlkbfnpncomifaaDoor
open Go.RowKit Go.Lib
namespace Opx
open Go.Law
/-- what the variable holds -/
structure Tabs (w : World) : Prop where
  names : ∀ k u, userL[k]? = some u → w.cell? ⟨0, k, none⟩ = some (.string u)
theorem Tabs.below {w w' : World} (h : Tabs w) (hb : Below w.heap.size w w') : Tabs w' :=
  ⟨fun k u hk => (hb.cell (block_lt_of_cell (h.names k u hk))).trans (h.names k u hk)⟩
theorem cells_of_strs {H : Type} {enc : TypeId × Value → H} {P : Program} {w : World} {base : Nat} {sp : Nat → Bool} {held : Bool} {fuel : Nat} {t e : TypeId} {n : Nat} {cs : List Value} {zs : List (List UInt8)} {p : List MemPlace}
    (ht : P.underlying t = some (.array n e)) (he : P.underlying e = some .string) (hce : P.cellsOf e = 1)
    (h : DataW.trod enc P w base sp held fuel t cs = some (.agg (zs.map fun z => DataW.lit (Lit.string z)), p)) : ∀ (i : Nat) (z : List UInt8), zs[i]? = some z → cs[i]? = some (Value.string ⟨z.toArray⟩) := by
  cases fuel with
  | zero => simp [DataW.trod] at h
  | succ fuel =>
    simp only [DataW.trod, ht, hce, Nat.mul_one] at h
    split at h
    · rename_i hl
      obtain ⟨xs, hm, hx⟩ := Option.map_eq_some_iff.1 h
      have hxs : xs.map (·.1) = zs.map fun z => (DataW.lit (.string z) : DataW H) := by
        have := congrArg Prod.fst hx
        simpa using this
      have hxl : xs.length = n := by simpa using mapM_length hm
      have hzl : zs.length = n := by
        have := congrArg List.length hxs
        simp at this
        omega
      intro i z hz
      have hi : i < n := by have := (List.getElem?_eq_some_iff.1 hz).1; omega
      obtain ⟨b, hb, hf⟩ := mapM_at hm i i (by simp [hi])
      obtain ⟨s, hc, rfl, _⟩ := DataW.trod_string he hf
      have h1 : cs[i]? = some (.string s) := by
        have := congrArg (·[0]?) hc
        simpa [List.getElem?_take, List.getElem?_drop] using this
      have h2 : (xs.map (·.1))[i]? = some (DataW.lit (.string s.data.toList) : DataW H) := by simp [hb]
      rw [hxs] at h2
      simp only [List.getElem?_map, Option.map_eq_some_iff, DataW.lit.injEq, Lit.string.injEq] at h2
      obtain ⟨z', hz', rfl⟩ := h2
      rw [hz] at hz'
      obtain rfl := Option.some.inj hz'
      rw [h1]
    · cases h
theorem tabs_of {W : World} (hL : laidMet Tryd.prog Rows.ocodeReadsRow.laid W) : Tabs W := by
  have r4 := Lib.laidMet.reads hL (.head _)
  obtain ⟨g', t', cs, fuel, p, hg', ht', hvar, hd⟩ := r4
  obtain rfl := Option.some.inj ((show Tryd.prog.globalNamed "doorman/ocode.users" = some 0 by kernel_rfl).symm.trans hg')
  obtain rfl := Option.some.inj ((show (Tryd.prog.globals[0]?).map (·.type) = some 60 by kernel_rfl).symm.trans ht')
  refine ⟨fun k u hk => ?_⟩
  have hc := cells_of_strs (zs := userL.map fun b => b.data.toList) Tryd.underlying60 Tryd.underlying9 (by kernel_rfl) hd k u.data.toList (by rw [List.getElem?_map, hk]; rfl)
  have e : (⟨u.data.toList.toArray⟩ : ByteArray) = u := by cases u; simp
  rw [e] at hc
  exact (World.var?_cell hg' hvar k).trans (by simpa using hc)
end Opx
end Go.Proofs.YtlkbfnpncomifaaDoor
