/-
  copy, append of made cells, append in place, and clear, at elements of any number of cells. General over programs.
-/
import Derived.Test.YtdfonlbbohnfhaaDoorSlices
import Derived.Laws.CopyOwn
import Derived.Deep.RegionLaw
import Derived.Lib.AppendZerosOnto
namespace Go.Law
open Go.RowKit
section
variable {P : Program} (w : World)
/-- only block g has turned -/
structure Turned (w w' : World) (g : Nat) : Prop where
  os : w'.os = w.os
  tape : w'.tape = w.tape
  output : w'.output = w.output
  size : w'.heap.size = w.heap.size
  block : ∀ k, k ≠ g → w'.heap[k]? = w.heap[k]?
theorem Turned.setRow (g : Nat) (cs : Array Value) : Turned w (w.setRow g cs) g := ⟨rfl, rfl, rfl, by simp [World.setRow], fun k hk => setRow_other w g k cs hk⟩
theorem Turned.below {w w' w0 : World} {g B : Nat} (h : Turned w w' g) (hb : Below B w0 w) (hg : B ≤ g) : Below B w0 w' :=
  hb.trans ⟨h.os, h.tape, h.output, by rw [h.size]; exact Nat.le_refl _, fun k hk => h.block k (by omega)⟩
theorem Turned.cell {w w' : World} {g : Nat} (h : Turned w w' g) {p : Addr} (hp : p.block ≠ g) : w'.cell? p = w.cell? p := World.cell?_of_block (h.block _ hp)
theorem Turned.is {w w' : World} {g k : Nat} {t : TypeId} {cs : Array Value} (h : Turned w w' g) (hi : Is w k t cs) (hk : k ≠ g) : Is w' k t cs := (h.block k hk).trans hi

theorem splice_all {α : Type} (cur cs : List α) (h : cur.length = cs.length) : splice cur 0 cs = cs := by
  unfold splice
  rw [List.take_zero, List.nil_append, Nat.zero_add, List.drop_of_length_le (by omega), List.append_nil]
theorem copy_any {dT sT ty elem : TypeId} {size g o dLen dCap lo B sLen sCap : Nat} {A : Option Addr} {cur : List Value} {t : TypeId} {cs : List Value}
    (hu : P.underlying dT = some (.slice elem)) (hs : (P.info? elem).map (·.size) = some size) (hg : Is w g t cur.toArray) (hn : cs.length = Nat.min sLen dLen * size) (hA : Seq w lo B A cs)
    (hfit : o + cs.length ≤ cur.length) (h1 : ∀ v ∈ cs, v.oneCell' = true) :
    (Builtin.copy_ #[dT, sT] ty #[.slice (some ⟨g, o, none⟩) dLen dCap, .slice A sLen sCap]).run P w = .ok (goInt (Nat.min sLen dLen)) (w.setRow g (splice cur o cs).toArray) := by
  cases hq : P.info? elem with
  | none => simp [hq] at hs
  | some i =>
    have hi : i.size = size := by simpa [hq] using hs
    have hg' : w.heap[g]? = some (.cells cur.toArray t (0, 0)) := hg
    have hst := run_storeCells_at P g o t cs 0 cur.toArray w hg' (by simpa using hfit) h1
    simp only [Nat.add_zero] at hst
    match A, hA with
    | some a, hA =>
      have hf := run_firstCells_some (P := P) w size (Nat.min sLen dLen) a sLen sCap cs hn (hA.adds rfl)
      simp [Builtin.copy_, run_underlying hu, Builtin.lenOf, sizeOf, typeInfo, hq, hi, hf, hst, splice, List.append_assoc]
    | none, hA =>
      have hc : cs = [] := by
        rcases cs with _ | ⟨u, us⟩
        · rfl
        · obtain ⟨_, _, h, _⟩ := hA (by simp)
          cases h
      subst hc
      have e : splice cur o [] = cur := by simp [splice]
      rw [e, setRow_self w g cur.toArray t (0, 0) hg']
      simp [Builtin.copy_, run_underlying hu, Builtin.lenOf, Builtin.firstCells, sizeOf, typeInfo, hq, storeCells]

theorem wpList_copy_any {ops : Array Oper} {rest : List Oper} {op : Oper} {a : Act} {Q : Exit → Act → World → Prop} (hgd : op.guard = none) (d s : Operand) {dT sT elem : TypeId}
    (ho : op.op = .call { callee := .builtin .copy, args := #[d, s], argTypes := #[dT, sT] }) {size g o dLen dCap lo B sLen sCap : Nat} {A : Option Addr} {cur : List Value} {t : TypeId} {cs : List Value}
    (hd : a.eval d = .slice (some ⟨g, o, none⟩) dLen dCap) (hx : a.eval s = .slice A sLen sCap)
    (hu : P.underlying dT = some (.slice elem)) (hs : (P.info? elem).map (·.size) = some size) (hg : Is w g t cur.toArray) (hn : cs.length = Nat.min sLen dLen * size) (hA : Seq w lo B A cs)
    (hfit : o + cs.length ≤ cur.length) (h1 : ∀ v ∈ cs, v.oneCell' = true)
    (h : ∀ w', Is w' g t (splice cur o cs).toArray → Turned w w' g → wpList P ops Q rest (a.put op.dst (goInt (Nat.min sLen dLen))) w') : wpList P ops Q (op :: rest) a w := by
  refine wpList_plain hgd fun K hK => ?_
  have hr := copy_any (P := P) w (ty := op.type) (sT := sT) (dCap := dCap) (sCap := sCap) hu hs hg hn hA hfit h1
  unfold Oper.wp
  simp [execOp, ho, resolve, invoke, builtin, hd, hx, hr, Result.andThen]
  exact hK _ _ (h _ (setRow_heap w g _ _ t _ hg) (Turned.setRow w g _))
/-- the same as one step of a region that draws -/
theorem step_copy_any {ops : Array Oper} {op : Oper} {a : Act} {K : Act → World → Prop} {Q : Exit → Act → World → Prop} {X : Prop} (hgd : op.guard = none) (d s : Operand) {dT sT elem : TypeId}
    (ho : op.op = .call { callee := .builtin .copy, args := #[d, s], argTypes := #[dT, sT] }) {size g o dLen dCap lo B sLen sCap : Nat} {A : Option Addr} {cur : List Value} {t : TypeId} {cs : List Value}
    (hd : a.eval d = .slice (some ⟨g, o, none⟩) dLen dCap) (hx : a.eval s = .slice A sLen sCap)
    (hu : P.underlying dT = some (.slice elem)) (hs : (P.info? elem).map (·.size) = some size) (hg : Is w g t cur.toArray) (hn : cs.length = Nat.min sLen dLen * size) (hA : Seq w lo B A cs)
    (hfit : o + cs.length ≤ cur.length) (h1 : ∀ v ∈ cs, v.oneCell' = true)
    (h : ∀ w', Is w' g t (splice cur o cs).toArray → Turned w w' g → K (a.put op.dst (goInt (Nat.min sLen dLen))) w') :
    if Region.wanted op (yielded ops a.tmps) = true then Oper.wp P op a w K Q else X := by
  rw [if_pos (by simp [Region.wanted, hgd])]
  have hr := copy_any (P := P) w (ty := op.type) (sT := sT) (dCap := dCap) (sCap := sCap) hu hs hg hn hA hfit h1
  unfold Oper.wp
  simp [execOp, ho, resolve, invoke, builtin, hd, hx, hr, Result.andThen]
  exact h _ (setRow_heap w g _ _ t _ hg) (Turned.setRow w g _)

/-- append in place, at a source that reads as a list, as one step of a region that draws -/
theorem step_append_fits {ops : Array Oper} {op : Oper} {a : Act} {K : Act → World → Prop} {Q : Exit → Act → World → Prop} {X : Prop} (hgd : op.guard = none) (s x : Operand) {t e : TypeId} {i : TypeInfo} {z : Value} {size bytes : Nat}
    (ho : op.op = .call { callee := .builtin .append, args := #[s, x], argTypes := #[t, t] }) (E : Elem P t e i z size bytes) {g sLen sCap lo B m c : Nat} {A : Option Addr} {cur news : List Value}
    (hv : a.eval s = .slice (some ⟨g, 0, none⟩) sLen sCap) (hx : a.eval x = .slice A m c) (hg : Is w g e cur.toArray) (hl : news.length = m * size) (hA : Seq w lo B A news) (h1 : ∀ v ∈ news, v.oneCell' = true)
    (hroom : sLen + m ≤ sCap) (hfit : sLen * size + news.length ≤ cur.length)
    (h : ∀ w', Is w' g e (splice cur (sLen * size) news).toArray → Turned w w' g → K (a.put op.dst (.slice (some ⟨g, 0, none⟩) (sLen + m) sCap)) w') :
    if Region.wanted op (yielded ops a.tmps) = true then Oper.wp P op a w K Q else X := by
  rw [if_pos (by simp [Region.wanted, hgd])]
  have hr : (Builtin.append_ #[t, t] op.type #[.slice (some ⟨g, 0, none⟩) sLen sCap, .slice A m c]).run P w = .ok (.slice (some ⟨g, 0, none⟩) (sLen + m) sCap) (w.setRow g (splice cur (sLen * size) news).toArray) := by
    match A, hA with
    | some ad, hA =>
      have := run_append_room (P := P) w t op.type e i E.ut E.info g sLen sCap cur.toArray hg ad m c news (by rw [E.sz]; exact hl) (hA.adds rfl) h1 hroom (by rw [E.sz]; simpa using hfit)
      rw [this, E.sz]
      simp [splice, List.append_assoc]
    | none, hA =>
      have hn : news = [] := by
        rcases news with _ | ⟨u, us⟩
        · rfl
        · obtain ⟨_, _, h, _⟩ := hA (by simp)
          cases h
      subst hn
      have hm : m = 0 := by
        rcases Nat.eq_zero_or_pos m with h0 | h0
        · exact h0
        · have := Nat.mul_pos h0 E.pos
          simp at hl
          omega
      subst hm
      have e1 : splice cur (sLen * size) [] = cur := by simp [splice]
      have hsc : sLen ≤ sCap := by omega
      rw [e1, setRow_self w g cur.toArray e (0, 0) hg]
      simp [Builtin.append_, run_underlying E.ut, sizeOf, typeInfo, E.info, Builtin.lenOf, Builtin.firstCells, hsc, storeCells]
  unfold Oper.wp
  simp [execOp, ho, resolve, invoke, builtin, hv, hx, hr, Result.andThen]
  exact h _ (setRow_heap w g _ _ e _ hg) (Turned.setRow w g _)

theorem clear_any {t e ty : TypeId} {z : Value} {size : Nat} (hu : P.underlying t = some (.slice e)) (hv : ∀ w, (zeroValue e).run P w = .ok z w) (hz : z.cells.size = size) (h1 : ∀ u ∈ z.cells.toList, u.oneCell' = true) (hp : 0 < size)
    {g o n c : Nat} {cur : List Value} {te : TypeId} (hn : 0 < n) (hg : Is w g te cur.toArray) (hfit : o + n * size ≤ cur.length) :
    (Builtin.clear_ #[t] ty #[.slice (some ⟨g, o, none⟩) n c]).run P w = .ok (.tuple #[]) (w.setRow g (splice cur o (Builtin.zeroCells z.cells n).toList).toArray) := by
  have hl : (Builtin.zeroCells z.cells n).toList.length = n * size := by rw [Array.length_toList, size_zeroCells, hz]
  have hone : ∀ u ∈ (Builtin.zeroCells z.cells n).toList, u.oneCell' = true := by
    intro u hu
    simp only [Builtin.zeroCells, Array.toList_map, List.mem_map] at hu
    obtain ⟨i, _, rfl⟩ := hu
    have hlt : i % z.cells.size < z.cells.size := Nat.mod_lt _ (by omega)
    rw [getElem!_pos z.cells _ hlt]
    exact h1 _ (by simp)
  have hst := run_storeCells_at P g o te _ 0 cur.toArray w hg (by rw [hl]; simpa using hfit) hone
  simp only [Nat.add_zero] at hst
  obtain ⟨m, rfl⟩ : ∃ m, n = m + 1 := ⟨n - 1, by omega⟩
  simp [Builtin.clear_, run_underlying hu, hv, hst, splice, List.append_assoc]
end
end Go.Law
