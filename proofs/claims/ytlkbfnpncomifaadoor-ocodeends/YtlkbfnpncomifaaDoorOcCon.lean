/-
  Bytes of 0 behind the end (layer 12), plain.
-/
import Derived.Test.YtlkbfnpncomifaaDoorOcL
namespace Go.Law
theorem opAt_congr {b c : List Int} (h : ∀ i, at_ b i = at_ c i) (i : Nat) : opAt b i = opAt c i := by unfold opAt usersAt; simp only [h]
theorem opLen_congr {b c : List Int} (h : ∀ i, at_ b i = at_ c i) (i : Nat) : opLen b i = opLen c i := by unfold opLen; simp only [h]
theorem opsPos_congr {b c : List Int} (h : ∀ i, at_ b i = at_ c i) (i : Nat) : ∀ k, opsPos b i k = opsPos c i k
  | 0 => rfl
  | k + 1 => by show opsPos b i k + _ = opsPos c i k + _; rw [opsPos_congr h i k, opLen_congr h]
theorem manyAt_congr {b c : List Int} (h : ∀ i, at_ b i = at_ c i) (i : Nat) : manyAt b i = manyAt c i := by unfold manyAt; rw [h]
theorem opsAt_congr {b c : List Int} (h : ∀ i, at_ b i = at_ c i) (i : Nat) : opsAt b i = opsAt c i := by
  unfold opsAt opsTo
  rw [manyAt_congr h]
  refine List.map_congr_left fun n _ => ?_
  rw [opsPos_congr h, opAt_congr h]
theorem clPos_congr {b c : List Int} (h : ∀ i, at_ b i = at_ c i) : ∀ k, clPos b k = clPos c k
  | 0 => rfl
  | k + 1 => by show opsEnd b (clPos b k) = opsEnd c (clPos c k); unfold opsEnd; rw [clPos_congr h k, manyAt_congr h, opsPos_congr h]
theorem clients_congr {b c : List Int} (h : ∀ i, at_ b i = at_ c i) : clients b = clients c := by
  unfold clients clTo clN
  rw [h 7]
  refine List.map_congr_left fun n _ => ?_
  rw [clPos_congr h, opsAt_congr h]
theorem clEnd_congr {b c : List Int} (h : ∀ i, at_ b i = at_ c i) : clEnd b = clEnd c := by
  unfold clEnd clN
  rw [h 7, clPos_congr h]
theorem at_zeros (b : List Int) (n i : Nat) : at_ b i = at_ (b ++ List.replicate n 0) i := by
  unfold at_
  rw [List.getD_eq_getElem?_getD, List.getD_eq_getElem?_getD]
  rcases Nat.lt_or_ge i b.length with h | h
  · rw [List.getElem?_append_left h]
  · rw [List.getElem?_append_right h, List.getElem?_eq_none h, List.getElem?_replicate]
    split <;> rfl
theorem picks_more (b : List Int) (n : Nat) : (picks b).length ≤ (picks (b ++ List.replicate n 0)).length := by
  unfold picks
  rw [pkTo_len, pkTo_len, ← clEnd_congr (at_zeros b n)]
  unfold pkN
  rw [List.length_append]
  omega
theorem Bytes.zeros {b : List Int} (h : Bytes b) (n : Nat) : Bytes (b ++ List.replicate n 0) := by
  intro x hx
  rcases List.mem_append.1 hx with hx | hx
  · exact h x hx
  · obtain rfl := List.eq_of_mem_replicate hx; omega
end Go.Law
