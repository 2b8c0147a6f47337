/-
  A slice of structs of a bool, a text and a number that came in. General over programs.
-/
import Derived.Test.YtekkddejgkmofaaSlices
import Derived.ChangeSlices
import Derived.Deep.SlicePairs
namespace Go.Law
open Go.RowKit Go.ChangeShapes Go.WideShapes Go.ChangeAt
/-- the slice at A holds these triples, in a block below B -/
def Acts (w : World) (B : Nat) (A : Option Addr) (l : List (Bool × ByteArray × Int)) : Prop :=
  l ≠ [] → ∃ b off, A = some ⟨b, off, none⟩ ∧ b < B ∧ ∀ i q, l[i]? = some q → w.cell? ⟨b, off + i * 3, none⟩ = some (.bool q.1) ∧ w.cell? ⟨b, off + i * 3 + 1, none⟩ = some (.string q.2.1) ∧ w.cell? ⟨b, off + i * 3 + 2, none⟩ = some (.int .i64 q.2.2)
theorem Acts.below {w w' : World} {B : Nat} {A : Option Addr} {l : List (Bool × ByteArray × Int)} (h : Acts w B A l) (hb : Below B w w') : Acts w' B A l := fun hn => by
  obtain ⟨b, off, e, hlt, hc⟩ := h hn
  refine ⟨b, off, e, hlt, fun i q hq => ?_⟩
  obtain ⟨h0, h1, h2⟩ := hc i q hq
  exact ⟨(hb.cell (p := ⟨b, off + i * 3, none⟩) hlt).trans h0, (hb.cell (p := ⟨b, off + i * 3 + 1, none⟩) hlt).trans h1, (hb.cell (p := ⟨b, off + i * 3 + 2, none⟩) hlt).trans h2⟩
theorem Acts.wide {w : World} {B B' : Nat} {A : Option Addr} {l : List (Bool × ByteArray × Int)} (h : Acts w B A l) (hB : B ≤ B') : Acts w B' A l := fun hn => by
  obtain ⟨b, off, e, hlt, hc⟩ := h hn
  exact ⟨b, off, e, by omega, hc⟩
theorem Acts.at {w : World} {B : Nat} {A : Option Addr} {l : List (Bool × ByteArray × Int)} {i : Nat} (h : Acts w B A l) (hi : i < l.length) : ∃ b off, A = some ⟨b, off, none⟩ ∧ b < B ∧
    w.cell? ⟨b, off + i * 3, none⟩ = some (.bool l[i].1) ∧ w.cell? ⟨b, off + i * 3 + 1, none⟩ = some (.string l[i].2.1) ∧ w.cell? ⟨b, off + i * 3 + 2, none⟩ = some (.int .i64 l[i].2.2) := by
  obtain ⟨b, off, e, hlt, hc⟩ := h (by intro h0; subst h0; simp at hi)
  exact ⟨b, off, e, hlt, hc i _ (List.getElem?_eq_getElem hi)⟩
theorem add_plain (b off i : Nat) : (⟨b, off, none⟩ : Addr).add i = ⟨b, off + i, none⟩ := by
  by_cases h0 : i = 0
  · subst h0; simp [Addr.add]
  · simp [Addr.add, h0]
theorem open_acts {H : Type} {enc : TypeId × Value → H} {P : Program} {t e : TypeId} {f0 f1 f2 : Field} (ht : P.underlying t = some (.slice e)) (he : P.underlying e = some (.struct #[f0, f1, f2])) (ce : P.cellsOf e = 3) (o0 : f0.offset = 0) (o1 : f1.offset = 1) (o2 : f2.offset = 2)
    (c0 : P.cellsOf f0.type = 1) (c1 : P.cellsOf f1.type = 1) (c2 : P.cellsOf f2.type = 1) (u0 : P.underlying f0.type = some .bool) (u1 : P.underlying f1.type = some .string) (u2 : P.underlying f2.type = some (.int .i64))
    {W : World} {base b0 : Nat} {sp : Nat → Bool} {hd : Bool} {v : Value} {d : DataW H} {p : List MemPlace}
    (hv : Value.okWide P W .any b0 t v) (h : DataW.Trod enc P W base sp hd t v d p) :
    ∃ (A : Option Addr) (c : Nat) (l : List (Bool × ByteArray × Int)), v = .slice A l.length c ∧ Acts W W.heap.size A l ∧ l.length ≤ maxLen ∧ ∀ q ∈ l, q.2.1.size ≤ maxLen := by
  obtain ⟨a, n, c, rfl⟩ := okWide_slice ht hv
  obtain ⟨fuel, hf⟩ := h
  rcases Go.Deep.open_slice ht hf with ⟨hcs, _⟩ | ⟨x, l, k, m, n', D, Pl, hcs, _, hl, hmx, hm, _, hx⟩
  · simp [Value.cells] at hcs
    obtain ⟨rfl, rfl, rfl⟩ := hcs
    exact ⟨none, 0, [], rfl, fun h => absurd rfl h, by simp, by simp⟩
  · simp [Value.cells] at hcs
    obtain ⟨rfl, rfl, rfl⟩ := hcs
    have hlm : n ≤ m := by rw [hm]; split <;> omega
    obtain ⟨b, off, spot⟩ := x
    have hsp : 0 < n → spot = none := fun hn => by
      obtain ⟨cs', h1, h2⟩ := hx 0 (by omega)
      rw [ce] at h1
      obtain ⟨_, hlen, hcell⟩ := World.cells?_some h1
      have e0 := hcell 0 (by omega)
      rw [Go.Deep.add_add, List.getElem?_eq_getElem (by omega)] at e0
      have := World.cell?_spot e0
      simpa [Addr.add] using this
    have each : ∀ i, i < n → spot = none ∧ b < W.heap.size ∧ ∃ q : Bool × ByteArray × Int, W.cell? ⟨b, off + i * 3, none⟩ = some (.bool q.1) ∧ W.cell? ⟨b, off + i * 3 + 1, none⟩ = some (.string q.2.1) ∧ W.cell? ⟨b, off + i * 3 + 2, none⟩ = some (.int .i64 q.2.2) ∧ q.2.1.size ≤ maxLen := fun i hi => by
      obtain ⟨cs', h1, h2⟩ := hx i (by omega)
      rw [ce] at h1
      obtain ⟨_, hlen, hcell⟩ := World.cells?_some h1
      obtain ⟨xs, k, hk, hxy, _, hxl, hff⟩ := DataW.trod_struct he h2
      match xs, hxl, cs', hlen with
      | [y0, y1, y2], _, [v0, v1, v2], _ =>
        have g0 := hff 0 f0 rfl
        have g1 := hff 1 f1 rfl
        have g2 := hff 2 f2 rfl
        simp [o0, o1, o2, c0, c1, c2] at g0 g1 g2
        have e0 := hcell 0 (by omega)
        have e1 := hcell 1 (by omega)
        have e2 := hcell 2 (by omega)
        rw [Go.Deep.add_add] at e0 e1 e2
        have hspot : spot = none := hsp (by omega)
        subst hspot
        rw [add_plain] at e0 e1 e2
        obtain ⟨x0, hx0, _⟩ := DataW.trod_bool u0 g0
        obtain ⟨x1, hx1, _, hs1⟩ := DataW.trod_string u1 g1
        obtain ⟨x2, hx2, _⟩ := DataW.trod_int u2 g2
        simp at hx0 hx1 hx2
        subst hx0 hx1 hx2
        refine ⟨rfl, World.block_lt_of_cell? W _ e0, (x0, x1, x2), by simpa using e0, by simpa [Nat.add_assoc] using e1, by simpa [Nat.add_assoc] using e2, hs1⟩
    have : ∃ g : Nat → Bool × ByteArray × Int, ∀ i, i < n → W.cell? ⟨b, off + i * 3, none⟩ = some (.bool (g i).1) ∧ W.cell? ⟨b, off + i * 3 + 1, none⟩ = some (.string (g i).2.1) ∧ W.cell? ⟨b, off + i * 3 + 2, none⟩ = some (.int .i64 (g i).2.2) ∧ (g i).2.1.size ≤ maxLen := by
      refine ⟨fun i => if h : i < n then Classical.choose (each i h).2.2 else (false, .empty, 0), fun i hi => ?_⟩
      simp only [hi, dif_pos]
      exact Classical.choose_spec (each i hi).2.2
    obtain ⟨g, hg⟩ := this
    refine ⟨some ⟨b, off, spot⟩, c, (List.range n).map g, by simp, fun hne => ?_, by simp; omega, fun q hq => by
      obtain ⟨i, hi, rfl⟩ := List.mem_map.1 hq
      exact (hg i (List.mem_range.1 hi)).2.2.2⟩
    have hn : 0 < n := by
      rcases Nat.eq_zero_or_pos n with h0 | h0
      · subst h0; simp at hne
      · exact h0
    obtain ⟨hsp', hb, _⟩ := each 0 hn
    subst hsp'
    refine ⟨b, off, rfl, hb, fun i q hq => ?_⟩
    have hi : i < n := by
      have := (List.getElem?_eq_some_iff.1 hq).1
      simpa using this
    have e1 : q = g i := by
      simp [hi] at hq
      exact hq.symm
    subst e1
    have := hg i hi
    exact ⟨this.1, this.2.1, this.2.2.1⟩
end Go.Law
