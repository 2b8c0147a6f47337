/-
  A slice argument whose elements take any number of cells, opened by what one element is. General over programs.
-/
import Derived.Test.YtdfonlbbohnfhaaDoorSlices
import Derived.ChangeSlices
import Derived.Deep.SlicePairs
namespace Go.Law
open Go.RowKit Go.ChangeShapes Go.WideShapes Go.ChangeAt
theorem add_plainR (b off i : Nat) : (⟨b, off, none⟩ : Addr).add i = ⟨b, off + i, none⟩ := by
  by_cases h0 : i = 0
  · subst h0; simp [Addr.add]
  · simp [Addr.add, h0]
section
variable {α : Type} (cells : α → List Value) {sz : Nat} (hc : ∀ q, (cells q).length = sz)
include hc
theorem rows_length : ∀ l : List α, (l.flatMap cells).length = l.length * sz
  | [] => by simp
  | q :: r => by rw [List.flatMap_cons, List.length_append, hc, rows_length r, List.length_cons, Nat.add_mul]; omega
theorem rows_at : ∀ {l : List α} {i : Nat} {q : α}, l[i]? = some q → ∀ {j : Nat}, j < sz → (l.flatMap cells)[i * sz + j]? = (cells q)[j]?
  | [], _, _, h, _, _ => by simp at h
  | p :: r, 0, q, h, j, hj => by
    simp at h; subst h
    rw [List.flatMap_cons, Nat.zero_mul, Nat.zero_add, List.getElem?_append_left (by rw [hc]; exact hj)]
  | p :: r, i + 1, q, h, j, hj => by
    rw [List.flatMap_cons, List.getElem?_append_right (by rw [hc, Nat.add_mul]; omega), hc, show (i + 1) * sz + j - sz = i * sz + j by rw [Nat.add_mul]; omega]
    exact rows_at (by simpa using h) hj
/-- an element's cells, out of a slice of such -/
theorem Seq.row {w : World} {lo B : Nat} {A : Option Addr} {l : List α} {i : Nat} (hsz : 0 < sz) (h : Seq w lo B A (l.flatMap cells)) (hi : i < l.length) : ∃ b off, A = some ⟨b, off, none⟩ ∧ lo ≤ b ∧ b < B ∧ ∀ j u, (cells l[i])[j]? = some u → w.cell? ⟨b, off + i * sz + j, none⟩ = some u := by
  have hne : l.flatMap cells ≠ [] := by
    intro h0
    have := rows_length cells hc l
    rw [h0, List.length_nil] at this
    have := Nat.mul_pos (show 0 < l.length by omega) hsz
    omega
  obtain ⟨b, off, e, hl, hb, hcell⟩ := h hne
  refine ⟨b, off, e, hl, hb, fun j u hu => ?_⟩
  have hj : j < sz := by have := (List.getElem?_eq_some_iff.1 hu).1; rwa [hc] at this
  have := hcell (i * sz + j) u (by rw [rows_at cells hc (List.getElem?_eq_getElem hi) hj]; exact hu)
  rwa [← Nat.add_assoc] at this
theorem open_rows {H : Type} {enc : TypeId × Value → H} {P : Program} {t e : TypeId} {Good : α → Prop} (ht : P.underlying t = some (.slice e)) (ce : P.cellsOf e = sz) (hsz : 0 < sz)
    {W : World} {base b0 : Nat} {sp : Nat → Bool} {hd : Bool} {v : Value} {d : DataW H} {p : List MemPlace}
    (dec : ∀ (fuel : Nat) (cs : List Value) (x : DataW H × List MemPlace), DataW.trod enc P W base sp hd fuel e cs = some x → ∃ q : α, cs = cells q ∧ Good q)
    (hv : Value.okWide P W .any b0 t v) (h : DataW.Trod enc P W base sp hd t v d p) :
    ∃ (A : Option Addr) (c : Nat) (l : List α), v = .slice A l.length c ∧ Seq W 0 W.heap.size A (l.flatMap cells) ∧ l.length ≤ maxLen ∧ ∀ q ∈ l, Good q := by
  obtain ⟨a, n, c, rfl⟩ := okWide_slice ht hv
  obtain ⟨fuel, hf⟩ := h
  rcases Go.Deep.open_slice ht hf with ⟨hcs, _⟩ | ⟨x, l, k, m, n', D, Pl, hcs, _, hl, hmx, hm, hdp, hx⟩
  · simp [Value.cells] at hcs
    obtain ⟨rfl, rfl, rfl⟩ := hcs
    exact ⟨none, 0, [], rfl, fun h => absurd rfl h, by simp, fun _ h => by cases h⟩
  · simp [Value.cells] at hcs
    obtain ⟨rfl, rfl, rfl⟩ := hcs
    have hlm : n ≤ m := by rw [hm]; split <;> omega
    obtain ⟨b, off, spot⟩ := x
    have hsp : 0 < n → spot = none := fun hn => by
      obtain ⟨cs', h1, h2⟩ := hx 0 (by omega)
      rw [ce] at h1
      obtain ⟨_, hlen, hcell⟩ := World.cells?_some h1
      have e0 := hcell 0 (by omega)
      rw [Go.Deep.add_add, List.getElem?_eq_getElem (by omega)] at e0
      have := World.cell?_spot e0
      simpa [Addr.add] using this
    have each : ∀ i, i < n → spot = none ∧ b < W.heap.size ∧ ∃ q : α, Good q ∧ ∀ j u, (cells q)[j]? = some u → W.cell? ⟨b, off + i * sz + j, none⟩ = some u := fun i hi => by
      obtain ⟨cs', h1, h2⟩ := hx i (by omega)
      rw [ce] at h1
      obtain ⟨_, hlen, hcell⟩ := World.cells?_some h1
      obtain ⟨q, rfl, hg⟩ := dec _ _ _ h2
      have hspot : spot = none := hsp (by omega)
      subst hspot
      have hj : ∀ j u, (cells q)[j]? = some u → W.cell? ⟨b, off + i * sz + j, none⟩ = some u := fun j u hu => by
        have hjl : j < sz := by have := (List.getElem?_eq_some_iff.1 hu).1; rwa [hc] at this
        have e0 := hcell j hjl
        rw [Go.Deep.add_add, add_plainR, hu, ← Nat.add_assoc] at e0
        exact e0
      refine ⟨rfl, ?_, q, hg, hj⟩
      have h0 : (cells q)[0]? = some ((cells q)[0]'(by rw [hc]; exact hsz)) := List.getElem?_eq_getElem _
      exact World.block_lt_of_cell? W _ (hj 0 _ h0)
    have : ∃ g : Nat → Option α, ∀ i, i < n → ∃ q, g i = some q ∧ Good q ∧ ∀ j u, (cells q)[j]? = some u → W.cell? ⟨b, off + i * sz + j, none⟩ = some u := by
      refine ⟨fun i => if h : i < n then some (Classical.choose (each i h).2.2) else none, fun i hi => ?_⟩
      simp only [hi, dif_pos]
      exact ⟨_, rfl, Classical.choose_spec (each i hi).2.2⟩
    obtain ⟨g, hg⟩ := this
    have hmap : ∃ l : List α, l.length = n ∧ ∀ i q, l[i]? = some q → Good q ∧ ∀ j u, (cells q)[j]? = some u → W.cell? ⟨b, off + i * sz + j, none⟩ = some u := by
      clear hl hmx hm hx hlm each hv hf hsp hdp
      induction n with
      | zero => exact ⟨[], rfl, fun i q h => by simp at h⟩
      | succ n ih =>
        obtain ⟨l, hl, hq⟩ := ih (fun i hi => hg i (by omega))
        obtain ⟨q, _, hG, hQ⟩ := hg n (by omega)
        refine ⟨l ++ [q], by simp [hl], fun i q' h => ?_⟩
        rcases Nat.lt_or_ge i n with h1 | h1
        · rw [List.getElem?_append_left (by omega)] at h
          exact hq i q' h
        · rw [List.getElem?_append_right (by omega)] at h
          have hi : i = n := by
            have := (List.getElem?_eq_some_iff.1 h).1
            simp at this; omega
          subst hi
          simp [hl] at h
          subst h
          exact ⟨hG, hQ⟩
    obtain ⟨l, hll, hlq⟩ := hmap
    subst hll
    refine ⟨some ⟨b, off, spot⟩, c, l, rfl, fun hne => ?_, by omega, fun q hq => ?_⟩
    · have hn : 0 < l.length := by
        rcases Nat.eq_zero_or_pos l.length with h0 | h0
        · rw [List.eq_nil_of_length_eq_zero h0] at hne; simp at hne
        · exact h0
      obtain ⟨hsp', hb, _⟩ := each 0 hn
      subst hsp'
      refine ⟨b, off, rfl, Nat.zero_le _, hb, fun i u hu => ?_⟩
      have hi : i < l.length * sz := by
        have := (List.getElem?_eq_some_iff.1 hu).1
        rwa [rows_length cells hc] at this
      have hq : i / sz < l.length := (Nat.div_lt_iff_lt_mul hsz).2 hi
      have hj : i % sz < sz := Nat.mod_lt _ hsz
      have hdm : i / sz * sz + i % sz = i := by rw [Nat.mul_comm]; exact Nat.div_add_mod i sz
      have h1 := rows_at cells hc (List.getElem?_eq_getElem hq) hj
      rw [hdm, hu] at h1
      have h2 := (hlq _ _ (List.getElem?_eq_getElem hq)).2 (i % sz) u h1.symm
      rwa [Nat.add_assoc, hdm] at h2
    · obtain ⟨i, hi, rfl⟩ := List.getElem_of_mem hq
      exact (hlq i _ (List.getElem?_eq_getElem hi)).1
end
/-- a struct argument by what its cells are -/
theorem open_struct {α : Type} (cells : α → List Value) {Good : α → Prop} {H : Type} {enc : TypeId × Value → H} {P : Program} {t : TypeId} {fs : Array Field} (ht : P.underlying t = some (.struct fs))
    {W : World} {base b0 : Nat} {sp : Nat → Bool} {hd : Bool} {v : Value} {d : DataW H} {p : List MemPlace}
    (dec : ∀ (fuel : Nat) (cs : List Value) (x : DataW H × List MemPlace), DataW.trod enc P W base sp hd fuel t cs = some x → ∃ q : α, cs = cells q ∧ Good q)
    (hv : Value.okWide P W .any b0 t v) (h : DataW.Trod enc P W base sp hd t v d p) : ∃ q : α, v = .agg (cells q).toArray ∧ Good q := by
  obtain ⟨cs, rfl, _⟩ := okWide_struct ht hv
  obtain ⟨fuel, hf⟩ := h
  obtain ⟨q, hq, hg⟩ := dec _ _ _ hf
  refine ⟨q, ?_, hg⟩
  rw [← hq]
  simp [Value.cells]
end Go.Law
