/-
  How many rows and events there are, as layer 9's statements count them. General over programs.
-/
import Derived.Test.YtkmodjdgcdcihaaFeed07
namespace Go.Law
/-- rows, and events of the first j rows, no row counted above 201 -/
def cnt {α : Type} (l : List (RowV α)) (j : Nat) : Nat := l.length + ((l.take j).map fun q => min q.xs.length 201).sum
theorem cnt_zero {α : Type} (l : List (RowV α)) : cnt l 0 = l.length := by simp [cnt]
theorem cnt_succ {α : Type} (l : List (RowV α)) {j : Nat} (h : j < l.length) : cnt l (j + 1) = cnt l j + min l[j].xs.length 201 := by
  unfold cnt
  rw [List.take_succ_eq_append_getElem h, List.map_append, List.sum_append]
  simp
  omega
theorem sum_min (ns : List Nat) (h : (ns.map fun n => min n 201).sum ≤ 200) : (ns.map fun n => min n 201).sum = ns.sum := by
  induction ns with
  | nil => rfl
  | cons n r ih =>
    simp only [List.map_cons, List.sum_cons] at h ⊢
    rw [ih (by omega)]
    omega
theorem cnt_small {α : Type} (l : List (RowV α)) (h : cnt l l.length ≤ 200) : l.length + (l.map fun q => q.xs.length).sum ≤ 200 := by
  unfold cnt at h
  rw [List.take_of_length_le (Nat.le_refl _)] at h
  have e : (l.map fun q => min q.xs.length 201) = (l.map fun q => q.xs.length).map fun n => min n 201 := by rw [List.map_map]; rfl
  rw [e] at h
  have := sum_min (l.map fun q => q.xs.length) (by omega)
  omega
end Go.Law
namespace Go.Proofs.Ytkmodjdgcdcihaa
namespace Feed
open Go.Law
theorem total_evs (l : List (RowV Ev)) : total (evs l) = (l.map fun q => q.xs.length).sum := by unfold total evs; rw [List.map_map]; rfl
/-- an argument of rows of events -/
theorem open_evs {H : Type} {enc : TypeId × Value → H} {W : World} {base b0 : Nat} {sp : Nat → Bool} {hd : Bool} {v : Value} {d : DataW H} {p : List MemPlace}
    (hv : Value.okWide Try.prog W .any b0 53 v) (h : DataW.Trod enc Try.prog W base sp hd 53 v d p) :
    ∃ (A : Option Addr) (c : Nat) (l : List (RowV Ev)), v = .slice A l.length c ∧ l.length ≤ c ∧ Seq W 0 W.heap.size A (l.flatMap cellsR) ∧ l.length ≤ maxLen ∧ ∀ q ∈ l, Seq W 0 W.heap.size q.A (q.xs.flatMap cellsE) ∧ q.xs.length ≤ maxLen ∧ q.xs.length ≤ q.c :=
  open_grid cellsE (sz := 8) (fun _ => rfl) Try.underlying53 Try.underlying29 (by kernel_rfl) (by kernel_rfl) (by decide)
    (fun fuel cs x hf => dec_ev Try.underlying58 (by kernel_rfl) rfl rfl rfl rfl (by kernel_rfl) (by kernel_rfl) (by kernel_rfl) (by kernel_rfl) Try.underlying9 Try.underlying34
      (fun fuel cs x hf => dec_pres Try.underlying40 (by kernel_rfl) rfl rfl rfl (by kernel_rfl) (by kernel_rfl) (by kernel_rfl) Try.underlying3 Try.underlying3 Try.underlying3 hf)
      (fun fuel cs x hf => dec_pres Try.underlying40 (by kernel_rfl) rfl rfl rfl (by kernel_rfl) (by kernel_rfl) (by kernel_rfl) Try.underlying3 Try.underlying3 Try.underlying3 hf) hf) hv h
/-- an argument of rows of numbers -/
theorem open_nums {H : Type} {enc : TypeId × Value → H} {W : World} {base b0 : Nat} {sp : Nat → Bool} {hd : Bool} {v : Value} {d : DataW H} {p : List MemPlace}
    (hv : Value.okWide Try.prog W .any b0 60 v) (h : DataW.Trod enc Try.prog W base sp hd 60 v d p) :
    ∃ (A : Option Addr) (c : Nat) (l : List (RowV Int)), v = .slice A l.length c ∧ l.length ≤ c ∧ Seq W 0 W.heap.size A (l.flatMap cellsR) ∧ l.length ≤ maxLen ∧ ∀ q ∈ l, Seq W 0 W.heap.size q.A (q.xs.flatMap fun x => [.int .u64 x]) ∧ q.xs.length ≤ maxLen ∧ q.xs.length ≤ q.c :=
  open_grid (fun x : Int => [.int .u64 x]) (sz := 1) (fun _ => rfl) Try.underlying60 Try.underlying61 (by kernel_rfl) (by kernel_rfl) (by decide)
    (fun fuel cs x hf => dec_u64 Try.underlying34 hf) hv h
end Feed
end Go.Proofs.Ytkmodjdgcdcihaa
