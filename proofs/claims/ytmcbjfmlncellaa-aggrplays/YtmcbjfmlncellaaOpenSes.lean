/-
  Arguments of type api.Session and []api.Session, opened. General over programs.
-/
import Derived.Test.YtmcbjfmlncellaaSessL
import Derived.ChangeSlices
import Derived.Deep.SlicePairs
import Derived.Lib.SmallJoins
namespace Go.Law
open Go.RowKit Go.ChangeShapes Go.WideShapes Go.ChangeAt
theorem add_plainS (b off i : Nat) : (⟨b, off, none⟩ : Addr).add i = ⟨b, off + i, none⟩ := by
  by_cases h0 : i = 0
  · subst h0; simp [Addr.add]
  · simp [Addr.add, h0]
theorem open_sess {H : Type} {enc : TypeId × Value → H} {P : Program} {t e : TypeId} {f0 f1 f2 f3 : Field} (ht : P.underlying t = some (.slice e)) (he : P.underlying e = some (.struct #[f0, f1, f2, f3])) (ce : P.cellsOf e = 4) (o0 : f0.offset = 0) (o1 : f1.offset = 1) (o2 : f2.offset = 2) (o3 : f3.offset = 3)
    (c0 : P.cellsOf f0.type = 1) (c1 : P.cellsOf f1.type = 1) (c2 : P.cellsOf f2.type = 1) (c3 : P.cellsOf f3.type = 1) (u0 : P.underlying f0.type = some (.int .i64)) (u1 : P.underlying f1.type = some (.int .i64)) (u2 : P.underlying f2.type = some (.int .i64)) (u3 : P.underlying f3.type = some (.int .u64))
    {W : World} {base b0 : Nat} {sp : Nat → Bool} {hd : Bool} {v : Value} {d : DataW H} {p : List MemPlace}
    (hv : Value.okWide P W .any b0 t v) (h : DataW.Trod enc P W base sp hd t v d p) :
    ∃ (A : Option Addr) (c : Nat) (l : List Sn), v = .slice A l.length c ∧ Seq W 0 W.heap.size A (flatS l) ∧ l.length ≤ maxLen := by
  obtain ⟨a, n, c, rfl⟩ := okWide_slice ht hv
  obtain ⟨fuel, hf⟩ := h
  rcases Go.Deep.open_slice ht hf with ⟨hcs, _⟩ | ⟨x, l, k, m, n', D, Pl, hcs, _, hl, hmx, hm, _, hx⟩
  · simp [Value.cells] at hcs
    obtain ⟨rfl, rfl, rfl⟩ := hcs
    exact ⟨none, 0, [], rfl, fun h => absurd rfl h, by simp⟩
  · simp [Value.cells] at hcs
    obtain ⟨rfl, rfl, rfl⟩ := hcs
    have hlm : n ≤ m := by rw [hm]; split <;> omega
    obtain ⟨b, off, spot⟩ := x
    have hsp : 0 < n → spot = none := fun hn => by
      obtain ⟨cs', h1, h2⟩ := hx 0 (by omega)
      rw [ce] at h1
      obtain ⟨_, hlen, hcell⟩ := World.cells?_some h1
      have e0 := hcell 0 (by omega)
      rw [Go.Deep.add_add, List.getElem?_eq_getElem (by omega)] at e0
      have := World.cell?_spot e0
      simpa [Addr.add] using this
    have each : ∀ i, i < n → spot = none ∧ b < W.heap.size ∧ ∃ q : Sn, W.cell? ⟨b, off + i * 4, none⟩ = some (.int .i64 q.1) ∧ W.cell? ⟨b, off + i * 4 + 1, none⟩ = some (.int .i64 q.2.1) ∧ W.cell? ⟨b, off + i * 4 + 2, none⟩ = some (.int .i64 q.2.2.1) ∧ W.cell? ⟨b, off + i * 4 + 3, none⟩ = some (.int .u64 q.2.2.2) := fun i hi => by
      obtain ⟨cs', h1, h2⟩ := hx i (by omega)
      rw [ce] at h1
      obtain ⟨_, hlen, hcell⟩ := World.cells?_some h1
      obtain ⟨xs, k, hk, hxy, _, hxl, hff⟩ := DataW.trod_struct he h2
      match xs, hxl, cs', hlen with
      | [y0, y1, y2, y3], _, [v0, v1, v2, v3], _ =>
        have g0 := hff 0 f0 rfl
        have g1 := hff 1 f1 rfl
        have g2 := hff 2 f2 rfl
        have g3 := hff 3 f3 rfl
        simp [o0, o1, o2, o3, c0, c1, c2, c3] at g0 g1 g2 g3
        have e0 := hcell 0 (by omega)
        have e1 := hcell 1 (by omega)
        have e2 := hcell 2 (by omega)
        have e3 := hcell 3 (by omega)
        rw [Go.Deep.add_add] at e0 e1 e2 e3
        have hspot : spot = none := hsp (by omega)
        subst hspot
        rw [add_plainS] at e0 e1 e2 e3
        obtain ⟨x0, hx0, _⟩ := DataW.trod_int u0 g0
        obtain ⟨x1, hx1, _⟩ := DataW.trod_int u1 g1
        obtain ⟨x2, hx2, _⟩ := DataW.trod_int u2 g2
        obtain ⟨x3, hx3, _⟩ := DataW.trod_int u3 g3
        simp at hx0 hx1 hx2 hx3
        subst hx0 hx1 hx2 hx3
        refine ⟨rfl, World.block_lt_of_cell? W _ e0, (x0, x1, x2, x3), by simpa using e0, by simpa [Nat.add_assoc] using e1, by simpa [Nat.add_assoc] using e2, by simpa [Nat.add_assoc] using e3⟩
    have : ∃ g : Nat → Sn, ∀ i, i < n → W.cell? ⟨b, off + i * 4, none⟩ = some (.int .i64 (g i).1) ∧ W.cell? ⟨b, off + i * 4 + 1, none⟩ = some (.int .i64 (g i).2.1) ∧ W.cell? ⟨b, off + i * 4 + 2, none⟩ = some (.int .i64 (g i).2.2.1) ∧ W.cell? ⟨b, off + i * 4 + 3, none⟩ = some (.int .u64 (g i).2.2.2) := by
      refine ⟨fun i => if h : i < n then Classical.choose (each i h).2.2 else (0, 0, 0, 0), fun i hi => ?_⟩
      simp only [hi, dif_pos]
      exact Classical.choose_spec (each i hi).2.2
    obtain ⟨g, hg⟩ := this
    refine ⟨some ⟨b, off, spot⟩, c, (List.range n).map g, by simp, fun hne => ?_, by simp; omega⟩
    have hn : 0 < n := by
      rcases Nat.eq_zero_or_pos n with h0 | h0
      · subst h0; simp [flatS] at hne
      · exact h0
    obtain ⟨hsp', hb, _⟩ := each 0 hn
    subst hsp'
    refine ⟨b, off, rfl, Nat.zero_le _, hb, fun i u hu => ?_⟩
    have hi : i < n * 4 := by
      have := (List.getElem?_eq_some_iff.1 hu).1
      rw [flatS_length] at this
      simpa using this
    have hq : i / 4 < n := by omega
    have hge : ((List.range n).map g)[i / 4]? = some (g (i / 4)) := by simp [hq]
    obtain ⟨a0, a1, a2, a3⟩ := flatS_at hge
    obtain ⟨b0, b1, b2, b3⟩ := hg (i / 4) hq
    have hm4 : i % 4 < 4 := Nat.mod_lt _ (by omega)
    have hdm : i / 4 * 4 + i % 4 = i := by omega
    rcases (by omega : i % 4 = 0 ∨ i % 4 = 1 ∨ i % 4 = 2 ∨ i % 4 = 3) with h4 | h4 | h4 | h4
    · rw [show i = i / 4 * 4 by omega, a0] at hu
      rw [show i = i / 4 * 4 by omega, ← Option.some.inj hu]; exact b0
    · rw [show i = i / 4 * 4 + 1 by omega, a1] at hu
      rw [show off + i = off + i / 4 * 4 + 1 by omega, ← Option.some.inj hu]; exact b1
    · rw [show i = i / 4 * 4 + 2 by omega, a2] at hu
      rw [show off + i = off + i / 4 * 4 + 2 by omega, ← Option.some.inj hu]; exact b2
    · rw [show i = i / 4 * 4 + 3 by omega, a3] at hu
      rw [show off + i = off + i / 4 * 4 + 3 by omega, ← Option.some.inj hu]; exact b3
end Go.Law
