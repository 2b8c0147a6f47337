/-
  Words of a line (layer 11): Name, words, Quote, Presence.
-/
import Derived.Test.YtdfonlbbohnfhaaDoorOpNum
import Derived.Test.YtdfonlbbohnfhaaDoorSlices
namespace Go.Proofs.YtdfonlbbohnfhaaDoor
open Go.RowKit Go.Shelf Go.Lib
attribute [local go_sem] Oper.semAt_some
namespace Opx
open Go.Law
def joinB (xs : List ByteArray) : ByteArray := ⟨(Lib.join (xs.map (·.data.toList)) [32]).toArray⟩
def quoteB (u : ByteArray) : ByteArray := strOfNums (Lib.quoteZ Lib.goPrintTabs u)
def intB (n : Int) : ByteArray := ⟨(Lib.itoa n).toArray⟩
def decB (u : Nat) : ByteArray := ⟨(Lib.decDigits u).toArray⟩
def I64 (n : Int) : Prop := -9223372036854775808 ≤ n ∧ n ≤ 9223372036854775807
set_option maxRecDepth 100000 in
theorem name_ (n : Int) (w : World) (hT : Tabs w) {u : ByteArray} (hu : (if 0 ≤ n ∧ n < 10 then nameL.getD n.toNat ⟨#[]⟩ else ⟨#[]⟩) = u) :
    Calls Tryd.prog 12 #[.int .i64 n] w fun e w' => e = .returned (.string u) ∧ Below w.heap.size w w' := by
  by_cases h0 : n < 0
  · have d0 : decide (n < 0) = true := decide_eq_true h0
    rw [if_neg (by omega)] at hu
    subst hu
    go_enter Tryd.func12, Tryd.ntmps12
    go_wp2_with fail
    go_ret
    exact ⟨rfl, Below.refl _ _⟩
  · have d0 : decide (n < 0) = false := decide_eq_false h0
    by_cases h1 : 10 ≤ n
    · have d1 : decide (10 ≤ n) = true := decide_eq_true h1
      rw [if_neg (by omega)] at hu
      subst hu
      go_enter Tryd.func12, Tryd.ntmps12
      go_wp2_with fail
      go_ret
      exact ⟨rfl, Below.refl _ _⟩
    · have d1 : decide (10 ≤ n) = false := decide_eq_false h1
      rw [if_pos (by omega)] at hu
      obtain ⟨k, rfl⟩ := Int.eq_ofNat_of_zero_le (show 0 ≤ n by omega)
      have hk : k < 10 := by omega
      have hk2 : k < nameL.length := hk
      have c0 : w.cell? ⟨0, k, none⟩ = some (.string u) := by
        refine hT.names k u ?_
        rw [← hu, List.getElem?_eq_getElem hk2]
        simp [List.getD, List.getElem?_eq_getElem hk2]
      have l0 := block_lt_of_cell c0
      simp only at l0
      go_enter Tryd.func12, Tryd.ntmps12
      go_wp2_with fail
      go_ret
      exact ⟨rfl, Below.refl _ _⟩
set_option maxRecDepth 100000 in
theorem words (xs : List ByteArray) (bk o c : Nat) (w : World) (hs : ∀ (j : Nat) x, xs[j]? = some x → w.cell? ⟨bk, o + j, none⟩ = some (.string x)) (hb : bk < w.heap.size) (hN : xs.length ≤ 1000) (hc : xs.length ≤ c) (hl : (joinB xs).size ≤ 140737488355328) :
    Calls Tryd.prog 13 #[.slice (some ⟨bk, o, none⟩) xs.length c] w fun e w' => e = .returned (.string (joinB xs)) ∧ Below w.heap.size w w' := by
  have HJ := Lib.hid (Tryd.strings_Join bk o c xs ⟨#[32]⟩ w hs hb (by omega) hc (by have := hl; unfold joinB at this; simpa [ByteArray.size] using this))
  clear hs
  go_enter Tryd.func13, Tryd.ntmps13
  go_wp2_with fail
  refine HJ.out.mono ?_
  rintro e w' ⟨rfl, hb⟩
  go_wp2_with fail
  go_ret
  exact ⟨rfl, hb⟩
theorem quote (u : ByteArray) (hu : u.size ≤ 1000) (w : World) (hT : Tabs w) : Calls Tryd.prog 14 #[.string u] w fun e w' => e = .returned (.string (quoteB u)) ∧ Below w.heap.size w w' :=
  Tryd.strconv_Quote Lib.goPrintTabs u w (by omega) hT.print hT.utf
theorem digI (n : Int) (h0 : -9223372036854775808 ≤ n) (h1 : n ≤ 9223372036854775807) (w : World) (hT : Tabs w) : Calls Tryd.prog 15 #[.int .i64 n] w fun e w' => e = .returned (.string (intB n)) ∧ Below w.heap.size w w' := digitsI n h0 h1 w hT
theorem digE (n : Int) (h0 : -9223372036854775808 ≤ n) (h1 : n ≤ 9223372036854775807) (w : World) (hT : Tabs w) : Calls Tryd.prog 18 #[.int .i64 n] w fun e w' => e = .returned (.string (intB n)) ∧ Below w.heap.size w w' := digitsE n h0 h1 w hT
theorem digU (u : Nat) (hu : u < 18446744073709551616) (w : World) (hT : Tabs w) : Calls Tryd.prog 16 #[.int .u64 (u : Int)] w fun e w' => e = .returned (.string (decB u)) ∧ Below w.heap.size w w' := digitsU u hu w hT
theorem quoteB_size (u : ByteArray) : (quoteB u).size ≤ 10 * u.size + 2 := by unfold quoteB; rw [strOfNums_size]; exact Lib.quoteZ_length_le _ u
end Opx
end Go.Proofs.YtdfonlbbohnfhaaDoor
