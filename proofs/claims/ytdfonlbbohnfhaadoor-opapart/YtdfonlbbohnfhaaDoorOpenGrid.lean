/-
  A slice argument whose elements are slices: rows of events, rows of numbers. General over programs.
-/
import Derived.Test.YtdfonlbbohnfhaaDoorFeedL
namespace Go.Law
open Go.RowKit Go.ChangeShapes Go.WideShapes Go.ChangeAt
section
variable {α : Type} (cells : α → List Value) {sz : Nat} (hc : ∀ q, (cells q).length = sz)
include hc
theorem open_rowsT {H : Type} {enc : TypeId × Value → H} {P : Program} {t e : TypeId} {Good : α → Prop} (ht : P.underlying t = some (.slice e)) (ce : P.cellsOf e = sz) (hsz : 0 < sz)
    {W : World} {base fuel0 : Nat} {sp : Nat → Bool} {hd : Bool} {cs0 : List Value} {x0 : DataW H × List MemPlace}
    (dec : ∀ (fuel : Nat) (cs : List Value) (x : DataW H × List MemPlace), DataW.trod enc P W base sp hd fuel e cs = some x → ∃ q : α, cs = cells q ∧ Good q)
    (hf : DataW.trod enc P W base sp hd fuel0 t cs0 = some x0) :
    ∃ (A : Option Addr) (c : Nat) (l : List α), cs0 = [.slice A l.length c] ∧ l.length ≤ c ∧ Seq W 0 W.heap.size A (l.flatMap cells) ∧ l.length ≤ maxLen ∧ ∀ q ∈ l, Good q := by
  rcases Go.Deep.open_slice ht hf with ⟨hcs, _⟩ | ⟨x, n, c, m, n', D, Pl, hcs, _, hl, hmx, hm, hdp, hx⟩
  · subst hcs
    exact ⟨none, 0, [], rfl, Nat.le_refl _, fun h => absurd rfl h, by simp, fun _ h => by cases h⟩
  · subst hcs
    have hlm : n ≤ m := by rw [hm]; split <;> omega
    obtain ⟨b, off, spot⟩ := x
    have hsp : 0 < n → spot = none := fun hn => by
      obtain ⟨cs', h1, h2⟩ := hx 0 (by omega)
      rw [ce] at h1
      obtain ⟨_, hlen, hcell⟩ := World.cells?_some h1
      have e0 := hcell 0 (by omega)
      rw [Go.Deep.add_add, List.getElem?_eq_getElem (by omega)] at e0
      have := World.cell?_spot e0
      simpa [Addr.add] using this
    have each : ∀ i, i < n → spot = none ∧ b < W.heap.size ∧ ∃ q : α, Good q ∧ ∀ j u, (cells q)[j]? = some u → W.cell? ⟨b, off + i * sz + j, none⟩ = some u := fun i hi => by
      obtain ⟨cs', h1, h2⟩ := hx i (by omega)
      rw [ce] at h1
      obtain ⟨_, hlen, hcell⟩ := World.cells?_some h1
      obtain ⟨q, rfl, hg⟩ := dec _ _ _ h2
      have hspot : spot = none := hsp (by omega)
      subst hspot
      have hj : ∀ j u, (cells q)[j]? = some u → W.cell? ⟨b, off + i * sz + j, none⟩ = some u := fun j u hu => by
        have hjl : j < sz := by have := (List.getElem?_eq_some_iff.1 hu).1; rwa [hc] at this
        have e0 := hcell j hjl
        rw [Go.Deep.add_add, add_plainR, hu, ← Nat.add_assoc] at e0
        exact e0
      refine ⟨rfl, ?_, q, hg, hj⟩
      have h0 : (cells q)[0]? = some ((cells q)[0]'(by rw [hc]; exact hsz)) := List.getElem?_eq_getElem _
      exact World.block_lt_of_cell? W _ (hj 0 _ h0)
    have : ∃ g : Nat → Option α, ∀ i, i < n → ∃ q, g i = some q ∧ Good q ∧ ∀ j u, (cells q)[j]? = some u → W.cell? ⟨b, off + i * sz + j, none⟩ = some u := by
      refine ⟨fun i => if h : i < n then some (Classical.choose (each i h).2.2) else none, fun i hi => ?_⟩
      simp only [hi, dif_pos]
      exact ⟨_, rfl, Classical.choose_spec (each i hi).2.2⟩
    obtain ⟨g, hg⟩ := this
    have hmap : ∃ l : List α, l.length = n ∧ ∀ i q, l[i]? = some q → Good q ∧ ∀ j u, (cells q)[j]? = some u → W.cell? ⟨b, off + i * sz + j, none⟩ = some u := by
      clear hl hmx hm hx hlm each hf hsp hdp
      induction n with
      | zero => exact ⟨[], rfl, fun i q h => by simp at h⟩
      | succ n ih =>
        obtain ⟨l, hl, hq⟩ := ih (fun i hi => hg i (by omega))
        obtain ⟨q, _, hG, hQ⟩ := hg n (by omega)
        refine ⟨l ++ [q], by simp [hl], fun i q' h => ?_⟩
        rcases Nat.lt_or_ge i n with h1 | h1
        · rw [List.getElem?_append_left (by omega)] at h
          exact hq i q' h
        · rw [List.getElem?_append_right (by omega)] at h
          have hi : i = n := by
            have := (List.getElem?_eq_some_iff.1 h).1
            simp at this; omega
          subst hi
          simp [hl] at h
          subst h
          exact ⟨hG, hQ⟩
    obtain ⟨l, hll, hlq⟩ := hmap
    subst hll
    refine ⟨some ⟨b, off, spot⟩, c, l, rfl, by omega, fun hne => ?_, by omega, fun q hq => ?_⟩
    · have hn : 0 < l.length := by
        rcases Nat.eq_zero_or_pos l.length with h0 | h0
        · rw [List.eq_nil_of_length_eq_zero h0] at hne; simp at hne
        · exact h0
      obtain ⟨hsp', hb, _⟩ := each 0 hn
      subst hsp'
      refine ⟨b, off, rfl, Nat.zero_le _, hb, fun i u hu => ?_⟩
      have hi : i < l.length * sz := by
        have := (List.getElem?_eq_some_iff.1 hu).1
        rwa [rows_length cells hc] at this
      have hq : i / sz < l.length := (Nat.div_lt_iff_lt_mul hsz).2 hi
      have hj : i % sz < sz := Nat.mod_lt _ hsz
      have hdm : i / sz * sz + i % sz = i := by rw [Nat.mul_comm]; exact Nat.div_add_mod i sz
      have h1 := rows_at cells hc (List.getElem?_eq_getElem hq) hj
      rw [hdm, hu] at h1
      have h2 := (hlq _ _ (List.getElem?_eq_getElem hq)).2 (i % sz) u h1.symm
      rwa [Nat.add_assoc, hdm] at h2
    · obtain ⟨i, hi, rfl⟩ := List.getElem_of_mem hq
      exact (hlq i _ (List.getElem?_eq_getElem hi)).1
end
/-- a row: where it lies, how much room there is, and what it holds -/
structure RowV (α : Type) where
  A : Option Addr
  c : Nat
  xs : List α
def cellsR {α : Type} (q : RowV α) : List Value := [.slice q.A q.xs.length q.c]
theorem open_grid {α : Type} (cells : α → List Value) {sz : Nat} (hc : ∀ q, (cells q).length = sz) {H : Type} {enc : TypeId × Value → H} {P : Program} {t r e : TypeId} (ht : P.underlying t = some (.slice r)) (hr : P.underlying r = some (.slice e)) (cr : P.cellsOf r = 1) (ce : P.cellsOf e = sz) (hsz : 0 < sz)
    {W : World} {base b0 : Nat} {sp : Nat → Bool} {hd : Bool} {v : Value} {d : DataW H} {p : List MemPlace}
    (dec : ∀ (fuel : Nat) (cs : List Value) (x : DataW H × List MemPlace), DataW.trod enc P W base sp hd fuel e cs = some x → ∃ q : α, cs = cells q)
    (hv : Value.okWide P W .any b0 t v) (h : DataW.Trod enc P W base sp hd t v d p) :
    ∃ (A : Option Addr) (c : Nat) (l : List (RowV α)), v = .slice A l.length c ∧ l.length ≤ c ∧ Seq W 0 W.heap.size A (l.flatMap cellsR) ∧ l.length ≤ maxLen ∧ ∀ q ∈ l, Seq W 0 W.heap.size q.A (q.xs.flatMap cells) ∧ q.xs.length ≤ maxLen ∧ q.xs.length ≤ q.c := by
  obtain ⟨a, n, c, rfl⟩ := okWide_slice ht hv
  obtain ⟨fuel, hf⟩ := h
  obtain ⟨A, c', l, he, hc', hs, hl, hq⟩ := open_rowsT (Good := fun q : RowV α => Seq W 0 W.heap.size q.A (q.xs.flatMap cells) ∧ q.xs.length ≤ maxLen ∧ q.xs.length ≤ q.c) cellsR (fun _ => rfl) ht cr (by decide) (fun fuel cs x hf => by
    obtain ⟨A, c, l, rfl, hc2, hs, hl, _⟩ := open_rowsT (Good := fun _ => True) cells hc hr ce hsz (fun fuel cs x hf => by obtain ⟨q, hq⟩ := dec fuel cs x hf; exact ⟨q, hq, trivial⟩) hf
    exact ⟨⟨A, c, l⟩, rfl, hs, hl, hc2⟩) hf
  refine ⟨A, c', l, ?_, hc', hs, hl, hq⟩
  simpa [Value.cells] using he
section
variable {H : Type} {enc : TypeId × Value → H} {P : Program} {W : World} {base : Nat} {sp : Nat → Bool} {hd : Bool} {fuel : Nat} {cs : List Value} {x : DataW H × List MemPlace}
theorem dec_pres {o : TypeId} {g0 g1 g2 : Field} (ho : P.underlying o = some (.struct #[g0, g1, g2])) (co : P.cellsOf o = 3) (o0 : g0.offset = 0) (o1 : g1.offset = 1) (o2 : g2.offset = 2)
    (c0 : P.cellsOf g0.type = 1) (c1 : P.cellsOf g1.type = 1) (c2 : P.cellsOf g2.type = 1) (u0 : P.underlying g0.type = some (.int .i64)) (u1 : P.underlying g1.type = some (.int .i64)) (u2 : P.underlying g2.type = some (.int .i64))
    (h : DataW.trod enc P W base sp hd fuel o cs = some x) : ∃ a b c : Int, cs = [.int .i64 a, .int .i64 b, .int .i64 c] := by
  obtain ⟨xs, n, _, _, hl, hxl, hf⟩ := DataW.trod_struct ho h
  rw [co] at hl
  match cs, hl, xs, hxl with
  | [v0, v1, v2], _, [y0, y1, y2], _ =>
    have k0 := hf 0 g0 rfl
    have k1 := hf 1 g1 rfl
    have k2 := hf 2 g2 rfl
    simp [o0, o1, o2, c0, c1, c2] at k0 k1 k2
    obtain ⟨a0, e0, _, w0⟩ := DataW.trod_int u0 k0
    obtain ⟨a1, e1, _, w1⟩ := DataW.trod_int u1 k1
    obtain ⟨a2, e2, _, w2⟩ := DataW.trod_int u2 k2
    simp at e0 e1 e2
    subst e0 e1 e2
    exact ⟨a0, a1, a2, rfl⟩
theorem dec_ev {e : TypeId} {f0 f1 f2 f3 : Field} (he : P.underlying e = some (.struct #[f0, f1, f2, f3])) (ce : P.cellsOf e = 8) (o0 : f0.offset = 0) (o1 : f1.offset = 1) (o2 : f2.offset = 4) (o3 : f3.offset = 7)
    (c0 : P.cellsOf f0.type = 1) (c1 : P.cellsOf f1.type = 3) (c2 : P.cellsOf f2.type = 3) (c3 : P.cellsOf f3.type = 1) (u0 : P.underlying f0.type = some .string) (u3 : P.underlying f3.type = some (.int .u64))
    (d1 : ∀ fuel cs x, DataW.trod enc P W base sp hd fuel f1.type cs = some x → ∃ a b c : Int, cs = [.int .i64 a, .int .i64 b, .int .i64 c]) (d2 : ∀ fuel cs x, DataW.trod enc P W base sp hd fuel f2.type cs = some x → ∃ a b c : Int, cs = [.int .i64 a, .int .i64 b, .int .i64 c])
    (h : DataW.trod enc P W base sp hd fuel e cs = some x) : ∃ q : Ev, cs = cellsE q := by
  obtain ⟨xs, n, _, _, hl, hxl, hf⟩ := DataW.trod_struct he h
  rw [ce] at hl
  match cs, hl, xs, hxl with
  | [v0, v1, v2, v3, v4, v5, v6, v7], _, [y0, y1, y2, y3], _ =>
    have k0 := hf 0 f0 rfl
    have k1 := hf 1 f1 rfl
    have k2 := hf 2 f2 rfl
    have k3 := hf 3 f3 rfl
    simp [o0, o1, o2, o3, c0, c1, c2, c3] at k0 k1 k2 k3
    obtain ⟨a0, e0, _, w0⟩ := DataW.trod_string u0 k0
    obtain ⟨a1, b1, z1, e1⟩ := d1 _ _ _ k1
    obtain ⟨a2, b2, z2, e2⟩ := d2 _ _ _ k2
    obtain ⟨a3, e3, _, w3⟩ := DataW.trod_int u3 k3
    simp at e0 e1 e2 e3
    obtain ⟨rfl, rfl, rfl⟩ := e1
    obtain ⟨rfl, rfl, rfl⟩ := e2
    subst e0 e3
    exact ⟨⟨a0, a1, b1, z1, a2, b2, z2, a3⟩, rfl⟩
theorem dec_u64 {e : TypeId} (he : P.underlying e = some (.int .u64)) (h : DataW.trod enc P W base sp hd fuel e cs = some x) : ∃ q : Int, cs = [.int .u64 q] := by
  obtain ⟨a, e0, _, w0⟩ := DataW.trod_int he h
  exact ⟨a, e0⟩
end
end Go.Law
