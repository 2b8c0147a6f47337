/-
  What the listed variables hold (layer 11): the tables of the library's that Quote and FormatInt read, and the kinds' names.
-/
import Derived.Test.YtdfonlbbohnfhaaDoorBase
import Derived.Test.YtdfonlbbohnfhaaDoorShelf
import Derived.Test.YtdfonlbbohnfhaaDoorTie
import Derived.Test.YtdfonlbbohnfhaaDoorCards
import Derived.PinnedBridge
import Derived.Lib.AppendIntMem
import Derived.Lay
import Derived.LaidOnce
import Derived.SevenTiedAt
namespace Go.Proofs.YtdfonlbbohnfhaaDoor
open Go.RowKit Go.Shelf Go.Lib
namespace Opx
def nameL : List ByteArray := [⟨#[]⟩, ⟨#[115, 101, 116]⟩, ⟨#[98, 101, 97, 116]⟩, ⟨#[99, 108, 101, 97, 114]⟩, ⟨#[113, 117, 101, 114, 121]⟩, ⟨#[98, 97, 116, 99, 104]⟩, ⟨#[119, 97, 116, 99, 104]⟩, ⟨#[117, 110, 119, 97, 116, 99, 104]⟩, ⟨#[112, 111, 108, 108]⟩, ⟨#[99, 108, 111, 115, 101]⟩]
/-- what the variables hold -/
structure Tabs (w : World) : Prop where
  print : Lib.PrintTabsAt 5 6 7 8 Lib.goPrintTabs w
  utf : Lib.Utf8Tabs 3 4 w
  pow : Lib.TabIs Tryd.prog w "internal/strconv.uint64pow10" .u64 Lib.pow10Tab
  names : ∀ k u, nameL[k]? = some u → w.cell? ⟨0, k, none⟩ = some (.string u)
theorem Tabs.below {w w' : World} (h : Tabs w) (hb : Below w.heap.size w w') : Tabs w' :=
  ⟨printTabs_below h.print hb, Utf8Tabs_below h.utf hb, Lib.tabBelow_of_tabIs h.pow w' hb, fun k u hk => (hb.cell (block_lt_of_cell (h.names k u hk))).trans (h.names k u hk)⟩
theorem cells_of_strs {H : Type} {enc : TypeId × Value → H} {P : Program} {w : World} {base : Nat} {sp : Nat → Bool} {held : Bool} {fuel : Nat} {t e : TypeId} {n : Nat} {cs : List Value} {zs : List (List UInt8)} {p : List MemPlace}
    (ht : P.underlying t = some (.array n e)) (he : P.underlying e = some .string) (hce : P.cellsOf e = 1)
    (h : DataW.trod enc P w base sp held fuel t cs = some (.agg (zs.map fun z => DataW.lit (Lit.string z)), p)) : ∀ (i : Nat) (z : List UInt8), zs[i]? = some z → cs[i]? = some (Value.string ⟨z.toArray⟩) := by
  cases fuel with
  | zero => simp [DataW.trod] at h
  | succ fuel =>
    simp only [DataW.trod, ht, hce, Nat.mul_one] at h
    split at h
    · rename_i hl
      obtain ⟨xs, hm, hx⟩ := Option.map_eq_some_iff.1 h
      have hxs : xs.map (·.1) = zs.map fun z => (DataW.lit (.string z) : DataW H) := by
        have := congrArg Prod.fst hx
        simpa using this
      have hxl : xs.length = n := by simpa using mapM_length hm
      have hzl : zs.length = n := by
        have := congrArg List.length hxs
        simp at this
        omega
      intro i z hz
      have hi : i < n := by have := (List.getElem?_eq_some_iff.1 hz).1; omega
      obtain ⟨b, hb, hf⟩ := mapM_at hm i i (by simp [hi])
      obtain ⟨s, hc, rfl, _⟩ := DataW.trod_string he hf
      have h1 : cs[i]? = some (.string s) := by
        have := congrArg (·[0]?) hc
        simpa [List.getElem?_take, List.getElem?_drop] using this
      have h2 : (xs.map (·.1))[i]? = some (DataW.lit (.string s.data.toList) : DataW H) := by simp [hb]
      rw [hxs] at h2
      simp only [List.getElem?_map, Option.map_eq_some_iff, DataW.lit.injEq, Lit.string.injEq] at h2
      obtain ⟨z', hz', rfl⟩ := h2
      rw [hz] at hz'
      obtain rfl := Option.some.inj hz'
      rw [h1]
    · cases h
theorem tabs_of {W : World} (hL : laidMet Tryd.prog Rows.opApartRow.laid W) : Tabs W := by
  have r2 := Lib.laidMet.reads hL (.tail _ (.tail _ (.head _)))
  have r3 := Lib.laidMet.reads hL (.tail _ (.tail _ (.tail _ (.head _))))
  have r4 := Lib.laidMet.reads hL (.tail _ (.tail _ (.tail _ (.tail _ (.head _)))))
  have r6 := Lib.laidMet.reads hL (.tail _ (.tail _ (.tail _ (.tail _ (.tail _ (.tail _ (.head _)))))))
  have r7 := Lib.laidMet.reads hL (.tail _ (.tail _ (.tail _ (.tail _ (.tail _ (.tail _ (.tail _ (.head _))))))))
  have r8 := Lib.laidMet.reads hL (.tail _ (.tail _ (.tail _ (.tail _ (.tail _ (.tail _ (.tail _ (.tail _ (.head _)))))))))
  have r9 := Lib.laidMet.reads hL (.tail _ (.tail _ (.tail _ (.tail _ (.tail _ (.tail _ (.tail _ (.tail _ (.tail _ (.head _))))))))))
  have r10 := Lib.laidMet.reads hL (.tail _ (.tail _ (.tail _ (.tail _ (.tail _ (.tail _ (.tail _ (.tail _ (.tail _ (.tail _ (.head _)))))))))))
  refine ⟨?_, ?_, ?_, ?_⟩
  · exact printTabs_of_reads (ρ := Tryd.lays177_ren) { Tryd.lays177 with } ⟨by kernel_rfl, by kernel_rfl, by kernel_rfl, by kernel_rfl, by kernel_rfl, by kernel_rfl, by kernel_rfl, by kernel_rfl, by kernel_rfl, by kernel_rfl⟩ (Pinned.isPrint16_eq ▸ r8) (Pinned.isNotPrint16_eq ▸ r6) (Pinned.isPrint32_eq ▸ r9) (Pinned.isNotPrint32_eq ▸ r7)
  · exact utf8Tabs_of_reads (ρ := Tryd.lays177_ren) { Tryd.lays177 with } ⟨by kernel_rfl, by kernel_rfl, by kernel_rfl, by kernel_rfl, by kernel_rfl, by kernel_rfl, by kernel_rfl⟩ (Pinned.utf8First_eq ▸ r10) r3
  · obtain ⟨g', t', cs, fuel, p, hg', ht', hvar, hd⟩ := r2
    obtain rfl := Option.some.inj ((show Tryd.prog.globalNamed "internal/strconv.uint64pow10" = some 1 by kernel_rfl).symm.trans hg')
    obtain rfl := Option.some.inj ((show (Tryd.prog.globals[1]?).map (·.type) = some 85 by kernel_rfl).symm.trans ht')
    unfold Lib.TabIs
    rw [hvar, ← Lib.cells_of_tab (k := .u64) (zs := Lib.pow10Tab) Tryd.underlying85 (by kernel_rfl) (by kernel_rfl) (by kernel_rfl) hd]
  · obtain ⟨g', t', cs, fuel, p, hg', ht', hvar, hd⟩ := r4
    obtain rfl := Option.some.inj ((show Tryd.prog.globalNamed "doorman/op.names" = some 0 by kernel_rfl).symm.trans hg')
    obtain rfl := Option.some.inj ((show (Tryd.prog.globals[0]?).map (·.type) = some 52 by kernel_rfl).symm.trans ht')
    intro k u hk
    have hc := cells_of_strs (zs := nameL.map fun b => b.data.toList) Tryd.underlying52 Tryd.underlying9 (by kernel_rfl) hd k u.data.toList (by rw [List.getElem?_map, hk]; rfl)
    have e : (⟨u.data.toList.toArray⟩ : ByteArray) = u := by cases u; simp
    rw [e] at hc
    exact (World.var?_cell hg' hvar k).trans (by simpa using hc)
end Opx
end Go.Proofs.YtdfonlbbohnfhaaDoor
