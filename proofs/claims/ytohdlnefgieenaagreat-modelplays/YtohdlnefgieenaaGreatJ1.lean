/-
  copy, append of made cells, append in place, and clear, at elements of any number of cells. General over programs.
-/
import Derived.Test.YtohdlnefgieenaaGreatJ0
import Derived.Laws.CopyOwn
import Derived.Deep.RegionLaw
import Derived.Lib.AppendZerosOnto
namespace Go.Law
open Go.RowKit
section
variable {P : Program} (w : World)
/-- only block g has turned -/
structure Turned (w w' : World) (g : Nat) : Prop where
  os : w'.os = w.os
  tape : w'.tape = w.tape
  output : w'.output = w.output
  size : w'.heap.size = w.heap.size
  block : ∀ k, k ≠ g → w'.heap[k]? = w.heap[k]?
theorem Turned.setRow (g : Nat) (cs : Array Value) : Turned w (w.setRow g cs) g := ⟨rfl, rfl, rfl, by simp [World.setRow], fun k hk => setRow_other w g k cs hk⟩
theorem Turned.below {w w' w0 : World} {g B : Nat} (h : Turned w w' g) (hb : Below B w0 w) (hg : B ≤ g) : Below B w0 w' :=
  hb.trans ⟨h.os, h.tape, h.output, by rw [h.size]; exact Nat.le_refl _, fun k hk => h.block k (by omega)⟩
theorem Turned.cell {w w' : World} {g : Nat} (h : Turned w w' g) {p : Addr} (hp : p.block ≠ g) : w'.cell? p = w.cell? p := World.cell?_of_block (h.block _ hp)
theorem Turned.is {w w' : World} {g k : Nat} {t : TypeId} {cs : Array Value} (h : Turned w w' g) (hi : Is w k t cs) (hk : k ≠ g) : Is w' k t cs := (h.block k hk).trans hi

theorem splice_all {α : Type} (cur cs : List α) (h : cur.length = cs.length) : splice cur 0 cs = cs := by
  unfold splice
  rw [List.take_zero, List.nil_append, Nat.zero_add, List.drop_of_length_le (by omega), List.append_nil]
theorem copy_any {dT sT ty elem : TypeId} {size g o dLen dCap lo B sLen sCap : Nat} {A : Option Addr} {cur : List Value} {t : TypeId} {cs : List Value}
    (hu : P.underlying dT = some (.slice elem)) (hs : (P.info? elem).map (·.size) = some size) (hg : Is w g t cur.toArray) (hn : cs.length = Nat.min sLen dLen * size) (hA : Seq w lo B A cs)
    (hfit : o + cs.length ≤ cur.length) (h1 : ∀ v ∈ cs, v.oneCell' = true) :
    (Builtin.copy_ #[dT, sT] ty #[.slice (some ⟨g, o, none⟩) dLen dCap, .slice A sLen sCap]).run P w = .ok (goInt (Nat.min sLen dLen)) (w.setRow g (splice cur o cs).toArray) := by
  cases hq : P.info? elem with
  | none => simp [hq] at hs
  | some i =>
    have hi : i.size = size := by simpa [hq] using hs
    have hg' : w.heap[g]? = some (.cells cur.toArray t (0, 0)) := hg
    have hst := run_storeCells_at P g o t cs 0 cur.toArray w hg' (by simpa using hfit) h1
    simp only [Nat.add_zero] at hst
    match A, hA with
    | some a, hA =>
      have hf := run_firstCells_some (P := P) w size (Nat.min sLen dLen) a sLen sCap cs hn (hA.adds rfl)
      simp [Builtin.copy_, run_underlying hu, Builtin.lenOf, sizeOf, typeInfo, hq, hi, hf, hst, splice, List.append_assoc]
    | none, hA =>
      have hc : cs = [] := by
        rcases cs with _ | ⟨u, us⟩
        · rfl
        · obtain ⟨_, _, h, _⟩ := hA (by simp)
          cases h
      subst hc
      have e : splice cur o [] = cur := by simp [splice]
      rw [e, setRow_self w g cur.toArray t (0, 0) hg']
      simp [Builtin.copy_, run_underlying hu, Builtin.lenOf, Builtin.firstCells, sizeOf, typeInfo, hq, storeCells]

theorem wpList_copy_any {ops : Array Oper} {rest : List Oper} {op : Oper} {a : Act} {Q : Exit → Act → World → Prop} (hgd : op.guard = none) (d s : Operand) {dT sT elem : TypeId}
    (ho : op.op = .call { callee := .builtin .copy, args := #[d, s], argTypes := #[dT, sT] }) {size g o dLen dCap lo B sLen sCap : Nat} {A : Option Addr} {cur : List Value} {t : TypeId} {cs : List Value}
    (hd : a.eval d = .slice (some ⟨g, o, none⟩) dLen dCap) (hx : a.eval s = .slice A sLen sCap)
    (hu : P.underlying dT = some (.slice elem)) (hs : (P.info? elem).map (·.size) = some size) (hg : Is w g t cur.toArray) (hn : cs.length = Nat.min sLen dLen * size) (hA : Seq w lo B A cs)
    (hfit : o + cs.length ≤ cur.length) (h1 : ∀ v ∈ cs, v.oneCell' = true)
    (h : ∀ w', Is w' g t (splice cur o cs).toArray → Turned w w' g → wpList P ops Q rest (a.put op.dst (goInt (Nat.min sLen dLen))) w') : wpList P ops Q (op :: rest) a w := by
  refine wpList_plain hgd fun K hK => ?_
  have hr := copy_any (P := P) w (ty := op.type) (sT := sT) (dCap := dCap) (sCap := sCap) hu hs hg hn hA hfit h1
  unfold Oper.wp
  simp [execOp, ho, resolve, invoke, builtin, hd, hx, hr, Result.andThen]
  exact hK _ _ (h _ (setRow_heap w g _ _ t _ hg) (Turned.setRow w g _))
/-- the same as one step of a region that draws -/
theorem step_copy_any {ops : Array Oper} {op : Oper} {a : Act} {K : Act → World → Prop} {Q : Exit → Act → World → Prop} {X : Prop} (hgd : op.guard = none) (d s : Operand) {dT sT elem : TypeId}
    (ho : op.op = .call { callee := .builtin .copy, args := #[d, s], argTypes := #[dT, sT] }) {size g o dLen dCap lo B sLen sCap : Nat} {A : Option Addr} {cur : List Value} {t : TypeId} {cs : List Value}
    (hd : a.eval d = .slice (some ⟨g, o, none⟩) dLen dCap) (hx : a.eval s = .slice A sLen sCap)
    (hu : P.underlying dT = some (.slice elem)) (hs : (P.info? elem).map (·.size) = some size) (hg : Is w g t cur.toArray) (hn : cs.length = Nat.min sLen dLen * size) (hA : Seq w lo B A cs)
    (hfit : o + cs.length ≤ cur.length) (h1 : ∀ v ∈ cs, v.oneCell' = true)
    (h : ∀ w', Is w' g t (splice cur o cs).toArray → Turned w w' g → K (a.put op.dst (goInt (Nat.min sLen dLen))) w') :
    if Region.wanted op (yielded ops a.tmps) = true then Oper.wp P op a w K Q else X := by
  rw [if_pos (by simp [Region.wanted, hgd])]
  have hr := copy_any (P := P) w (ty := op.type) (sT := sT) (dCap := dCap) (sCap := sCap) hu hs hg hn hA hfit h1
  unfold Oper.wp
  simp [execOp, ho, resolve, invoke, builtin, hd, hx, hr, Result.andThen]
  exact h _ (setRow_heap w g _ _ t _ hg) (Turned.setRow w g _)

/-- append in place, at a source that reads as a list, as one step of a region that draws -/
theorem step_append_fits {ops : Array Oper} {op : Oper} {a : Act} {K : Act → World → Prop} {Q : Exit → Act → World → Prop} {X : Prop} (hgd : op.guard = none) (s x : Operand) {t e : TypeId} {i : TypeInfo} {z : Value} {size bytes : Nat}
    (ho : op.op = .call { callee := .builtin .append, args := #[s, x], argTypes := #[t, t] }) (E : Elem P t e i z size bytes) {g sLen sCap lo B m c : Nat} {A : Option Addr} {cur news : List Value}
    (hv : a.eval s = .slice (some ⟨g, 0, none⟩) sLen sCap) (hx : a.eval x = .slice A m c) (hg : Is w g e cur.toArray) (hl : news.length = m * size) (hA : Seq w lo B A news) (h1 : ∀ v ∈ news, v.oneCell' = true)
    (hroom : sLen + m ≤ sCap) (hfit : sLen * size + news.length ≤ cur.length)
    (h : ∀ w', Is w' g e (splice cur (sLen * size) news).toArray → Turned w w' g → K (a.put op.dst (.slice (some ⟨g, 0, none⟩) (sLen + m) sCap)) w') :
    if Region.wanted op (yielded ops a.tmps) = true then Oper.wp P op a w K Q else X := by
  rw [if_pos (by simp [Region.wanted, hgd])]
  have hr : (Builtin.append_ #[t, t] op.type #[.slice (some ⟨g, 0, none⟩) sLen sCap, .slice A m c]).run P w = .ok (.slice (some ⟨g, 0, none⟩) (sLen + m) sCap) (w.setRow g (splice cur (sLen * size) news).toArray) := by
    match A, hA with
    | some ad, hA =>
      have := run_append_room (P := P) w t op.type e i E.ut E.info g sLen sCap cur.toArray hg ad m c news (by rw [E.sz]; exact hl) (hA.adds rfl) h1 hroom (by rw [E.sz]; simpa using hfit)
      rw [this, E.sz]
      simp [splice, List.append_assoc]
    | none, hA =>
      have hn : news = [] := by
        rcases news with _ | ⟨u, us⟩
        · rfl
        · obtain ⟨_, _, h, _⟩ := hA (by simp)
          cases h
      subst hn
      have hm : m = 0 := by
        rcases Nat.eq_zero_or_pos m with h0 | h0
        · exact h0
        · have := Nat.mul_pos h0 E.pos
          simp at hl
          omega
      subst hm
      have e1 : splice cur (sLen * size) [] = cur := by simp [splice]
      have hsc : sLen ≤ sCap := by omega
      rw [e1, setRow_self w g cur.toArray e (0, 0) hg]
      simp [Builtin.append_, run_underlying E.ut, sizeOf, typeInfo, E.info, Builtin.lenOf, Builtin.firstCells, hsc, storeCells]
  unfold Oper.wp
  simp [execOp, ho, resolve, invoke, builtin, hv, hx, hr, Result.andThen]
  exact h _ (setRow_heap w g _ _ e _ hg) (Turned.setRow w g _)

theorem clear_any {t e ty : TypeId} {z : Value} {size : Nat} (hu : P.underlying t = some (.slice e)) (hv : ∀ w, (zeroValue e).run P w = .ok z w) (hz : z.cells.size = size) (h1 : ∀ u ∈ z.cells.toList, u.oneCell' = true) (hp : 0 < size)
    {g o n c : Nat} {cur : List Value} {te : TypeId} (hn : 0 < n) (hg : Is w g te cur.toArray) (hfit : o + n * size ≤ cur.length) :
    (Builtin.clear_ #[t] ty #[.slice (some ⟨g, o, none⟩) n c]).run P w = .ok (.tuple #[]) (w.setRow g (splice cur o (Builtin.zeroCells z.cells n).toList).toArray) := by
  have hl : (Builtin.zeroCells z.cells n).toList.length = n * size := by rw [Array.length_toList, size_zeroCells, hz]
  have hone : ∀ u ∈ (Builtin.zeroCells z.cells n).toList, u.oneCell' = true := by
    intro u hu
    simp only [Builtin.zeroCells, Array.toList_map, List.mem_map] at hu
    obtain ⟨i, _, rfl⟩ := hu
    have hlt : i % z.cells.size < z.cells.size := Nat.mod_lt _ (by omega)
    rw [getElem!_pos z.cells _ hlt]
    exact h1 _ (by simp)
  have hst := run_storeCells_at P g o te _ 0 cur.toArray w hg (by rw [hl]; simpa using hfit) hone
  simp only [Nat.add_zero] at hst
  obtain ⟨m, rfl⟩ : ∃ m, n = m + 1 := ⟨n - 1, by omega⟩
  simp [Builtin.clear_, run_underlying hu, hv, hst, splice, List.append_assoc]
end
end Go.Law
/-
  A user's sessions as plain lists: put, taken out, told by an id, beaten, living; and their cells. General over programs.
-/
namespace Go.Law
open Go.RowKit
/-- a session: its id; status, prio, until -/
abbrev Sn := Int × Int × Int × Int
abbrev ltI : Int → Int → Prop := fun a b => a < b
theorem triI : Tri ltI := ⟨fun a => Int.lt_irrefl a, fun h1 h2 => Int.lt_trans h1 h2, fun a b => by rcases Int.lt_trichotomy a b with h | h | h; exact .inl h; exact .inr (.inl h); exact .inr (.inr h)⟩
/-- rising ids -/
abbrev Up (l : List Sn) : Prop := Rises ltI l
def put (s : Sn) (l : List Sn) : List Sn := putK ltI s.1 s.2 l
def out (k : Int) (l : List Sn) : List Sn := outK k l
def hasS (k : Int) (l : List Sn) : Bool := l.any fun q => q.1 == k
def live (now : Int) (l : List Sn) : List Sn := l.filter fun q => decide (now < q.2.2.2)
def beat1 (k u : Int) (q : Sn) : Sn := if q.1 = k ∧ q.2.2.2 < u then (q.1, q.2.1, q.2.2.1, u) else q
def beatS (k u : Int) (l : List Sn) : List Sn := l.map (beat1 k u)
/-- the place of an id, and of the first id beyond it -/
def atS (k : Int) (l : List Sn) : Nat := l.findIdx fun q => q.1 == k
def pastS (k : Int) (l : List Sn) : Nat := l.findIdx fun q => decide (k < q.1)
theorem atS_cons (k : Int) (p : Sn) (r : List Sn) : atS k (p :: r) = if p.1 = k then 0 else atS k r + 1 := by
  unfold atS; rw [List.findIdx_cons]; by_cases h : p.1 = k
  · simp [h]
  · have h' : (p.1 == k) = false := by simpa using h
    simp only [h', if_neg h, cond_false]
theorem pastS_cons (k : Int) (p : Sn) (r : List Sn) : pastS k (p :: r) = if k < p.1 then 0 else pastS k r + 1 := by
  unfold pastS; rw [List.findIdx_cons]; by_cases h : k < p.1
  · simp [h]
  · simp [h]
theorem atS_le (k : Int) (l : List Sn) : atS k l ≤ l.length := List.findIdx_le_length
theorem pastS_le (k : Int) (l : List Sn) : pastS k l ≤ l.length := List.findIdx_le_length
theorem hasS_cons (k : Int) (p : Sn) (r : List Sn) : hasS k (p :: r) = (p.1 == k || hasS k r) := rfl
theorem has_at (k : Int) : ∀ l : List Sn, hasS k l = decide (atS k l < l.length)
  | [] => rfl
  | p :: r => by
    rw [hasS_cons, atS_cons, has_at k r]
    by_cases h : p.1 = k
    · simp [h]
    · simp [h]
theorem has_mem {k : Int} {l : List Sn} (h : hasS k l = true) : ∃ q ∈ l, q.1 = k := by simpa [hasS] using h
theorem not_mem {k : Int} {l : List Sn} (h : hasS k l = false) : ∀ q ∈ l, q.1 ≠ k := by simpa [hasS] using h
theorem has_of {k : Int} {l : List Sn} {q : Sn} (h : q ∈ l) (e : q.1 = k) : hasS k l = true := by
  simp only [hasS, List.any_eq_true]; exact ⟨q, h, by simp [e]⟩
theorem at_get {k : Int} {l : List Sn} (h : atS k l < l.length) : (l[atS k l]).1 = k := by
  have h1 : ((l[atS k l]).1 == k) = true := List.findIdx_getElem (p := fun q : Sn => q.1 == k) (xs := l) (w := h)
  simpa using h1
theorem Up.lt_has {p : Sn} {r : List Sn} {k : Int} (h : Up (p :: r)) (hk : hasS k r = true) : p.1 < k := by
  obtain ⟨q, hq, rfl⟩ := has_mem hk
  exact h.head q hq
theorem put_cons (s p : Sn) (r : List Sn) : put s (p :: r) = if s.1 < p.1 then s :: p :: r else if p.1 < s.1 then p :: put s r else s :: r := rfl
theorem put_at (s : Sn) : ∀ {l : List Sn}, Up l → atS s.1 l < l.length → put s l = l.set (atS s.1 l) s
  | [], _, h => absurd h (by simp)
  | p :: r, hu, h => by
    rw [put_cons, atS_cons]
    by_cases e : p.1 = s.1
    · rw [if_pos e, if_neg (by omega), if_neg (by omega)]; rfl
    · rw [atS_cons, if_neg e] at h
      have h' : atS s.1 r < r.length := by simpa using h
      have hl := Up.lt_has hu (k := s.1) (by rw [has_at]; simpa using h')
      rw [if_neg e, if_neg (by omega), if_pos hl, put_at s hu.tail h']; rfl
theorem put_past (s : Sn) : ∀ {l : List Sn}, atS s.1 l = l.length → put s l = l.take (pastS s.1 l) ++ s :: l.drop (pastS s.1 l)
  | [], _ => rfl
  | p :: r, h => by
    rw [atS_cons] at h
    have e : p.1 ≠ s.1 := by intro e; rw [if_pos e] at h; simp at h
    rw [if_neg e] at h
    rw [put_cons, pastS_cons]
    by_cases e2 : s.1 < p.1
    · rw [if_pos e2, if_pos e2]; rfl
    · rw [if_neg e2, if_neg e2, if_pos (by omega), put_past s (by simpa using h)]; rfl
theorem out_at (k : Int) : ∀ {l : List Sn}, Up l → atS k l < l.length → out k l = l.take (atS k l) ++ l.drop (atS k l + 1)
  | [], _, h => absurd h (by simp)
  | p :: r, hu, h => by
    by_cases e : p.1 = k
    · rw [atS_cons, if_pos e]
      have h1 : out k (p :: r) = out k r := by unfold out outK; rw [List.filter_cons_of_neg (by simp [e])]
      rw [h1]
      exact outK_none fun q hq => by have : p.1 < q.1 := hu.head q hq; omega
    · rw [atS_cons, if_neg e] at h ⊢
      have h1 : out k (p :: r) = p :: out k r := by unfold out outK; rw [List.filter_cons_of_pos (by simpa using e)]
      rw [h1, out_at k hu.tail (by simpa using h)]; rfl
theorem out_none {k : Int} {l : List Sn} (h : hasS k l = false) : out k l = l := outK_none (not_mem h)
theorem out_has (k : Int) (l : List Sn) : hasS k (out k l) = false := by
  rw [Bool.eq_false_iff]; intro h
  obtain ⟨q, hq, e⟩ := has_mem h
  have := (List.mem_filter.1 hq).2
  simp [e] at this
theorem out_length {k : Int} {l : List Sn} (hu : Up l) (h : hasS k l = true) : (out k l).length + 1 = l.length := by
  rw [has_at] at h
  have h' : atS k l < l.length := by simpa using h
  rw [out_at k hu h']; simp; omega
theorem put_length (s : Sn) {l : List Sn} (hu : Up l) : (put s l).length = if hasS s.1 l then l.length else l.length + 1 := by
  cases h : hasS s.1 l with
  | true =>
    rw [has_at] at h
    rw [put_at s hu (by simpa using h)]; simp
  | false =>
    rw [has_at] at h
    have := atS_le s.1 l
    have := pastS_le s.1 l
    rw [put_past s (by simp at h; omega)]; simp; omega
theorem put_le (s : Sn) (l : List Sn) : (put s l).length ≤ l.length + 1 := (putK_length ltI s.1 s.2 l).1
theorem put_up (s : Sn) {l : List Sn} (hu : Up l) : Up (put s l) := putK_rises ltI triI hu
theorem out_up (k : Int) {l : List Sn} (hu : Up l) : Up (out k l) := outK_rises ltI hu
theorem live_up (k : Int) {l : List Sn} (hu : Up l) : Up (live k l) := List.Pairwise.sublist List.filter_sublist hu
theorem beat1_id (k u : Int) (q : Sn) : (beat1 k u q).1 = q.1 := by unfold beat1; split <;> rfl
theorem beat_up (k u : Int) {l : List Sn} (hu : Up l) : Up (beatS k u l) := List.pairwise_map.2 (hu.imp fun h => by rw [beat1_id, beat1_id]; exact h)
theorem beat_length (k u : Int) (l : List Sn) : (beatS k u l).length = l.length := List.length_map ..
theorem live_length (k : Int) (l : List Sn) : (live k l).length ≤ l.length := List.length_filter_le ..
theorem beat_has (k u i : Int) (l : List Sn) : hasS i (beatS k u l) = hasS i l := by
  simp only [hasS, beatS, List.any_map]; congr 1; funext q; simp [beat1_id]
theorem put_mem (s : Sn) : ∀ l : List Sn, s ∈ put s l
  | [] => by simp [put, putK]
  | p :: r => by
    rw [put_cons]
    split
    · simp
    · split
      · exact List.mem_cons_of_mem _ (put_mem s r)
      · simp
theorem put_has (s : Sn) (l : List Sn) : hasS s.1 (put s l) = true := has_of (put_mem s l) rfl
/-- only one session of a rising list has an id -/
theorem Up.one : ∀ {l : List Sn}, Up l → ∀ {a b : Sn}, a ∈ l → b ∈ l → a.1 = b.1 → a = b
  | [], _, _, _, h, _, _ => by cases h
  | p :: r, hu, a, b, ha, hb, e => by
    rcases List.mem_cons.1 ha with ea | ha
    · rcases List.mem_cons.1 hb with eb | hb
      · rw [ea, eb]
      · have : p.1 < b.1 := hu.head b hb
        rw [ea] at e; omega
    · rcases List.mem_cons.1 hb with eb | hb
      · have : p.1 < a.1 := hu.head a ha
        rw [eb] at e; omega
      · exact Up.one hu.tail ha hb e
theorem put_put (s : Sn) {l : List Sn} (hu : Up l) : put s (put s l) = put s l := by
  have hu' := put_up s hu
  have hh := put_has s l
  rw [has_at] at hh
  have hlt : atS s.1 (put s l) < (put s l).length := by simpa using hh
  rw [put_at s hu' hlt]
  have e : (put s l)[atS s.1 (put s l)] = s := Up.one hu' (List.getElem_mem _) (put_mem s l) (at_get hlt)
  exact List.ext_getElem (by simp) fun i h1 h2 => by
    rw [List.getElem_set]
    split
    · rename_i hi; subst hi; exact e.symm
    · rfl
theorem beat_put (s : Sn) {l : List Sn} (hu : Up l) : beatS s.1 s.2.2.2 (put s l) = put s l := by
  unfold beatS
  conv => rhs; rw [← List.map_id (put s l)]
  refine List.map_congr_left fun q hq => ?_
  unfold beat1
  split
  · rename_i h
    obtain rfl := Up.one (put_up s hu) hq (put_mem s l) h.1
    omega
  · rfl
theorem beat_none {k u : Int} {l : List Sn} (h : hasS k l = false) : beatS k u l = l := by
  unfold beatS
  conv => rhs; rw [← List.map_id l]
  refine List.map_congr_left fun q hq => ?_
  unfold beat1
  rw [if_neg (fun h' => not_mem h q hq h'.1)]; rfl
theorem beat_at (k u : Int) : ∀ {l : List Sn}, Up l → (h : atS k l < l.length) → beatS k u l = l.set (atS k l) (k, (l[atS k l]).2.1, (l[atS k l]).2.2.1, max (l[atS k l]).2.2.2 u)
  | [], _, h => absurd h (by simp)
  | p :: r, hu, h => by
    by_cases e : p.1 = k
    · have h0 : atS k (p :: r) = 0 := by rw [atS_cons, if_pos e]
      have h1 : beatS k u r = r := beat_none (by
        rw [Bool.eq_false_iff]; intro h'; have := Up.lt_has hu h'; omega)
      have h2 : beatS k u (p :: r) = beat1 k u p :: beatS k u r := rfl
      rw [h2, h1]
      simp only [h0, List.getElem_cons_zero, List.set_cons_zero]
      congr 1
      unfold beat1
      obtain ⟨a, b, c, d⟩ := p
      simp only at e ⊢
      subst e
      split
      · simp; omega
      · simp; omega
    · have h0 : atS k (p :: r) = atS k r + 1 := by rw [atS_cons, if_neg e]
      have h' : atS k r < r.length := by rw [h0] at h; simpa using h
      have h2 : beatS k u (p :: r) = beat1 k u p :: beatS k u r := rfl
      have h3 : beat1 k u p = p := by unfold beat1; rw [if_neg (fun h => e h.1)]
      rw [h2, h3, beat_at k u hu.tail h']
      simp only [h0, List.getElem_cons_succ, List.set_cons_succ]
theorem live_live {a b : Int} (h : a ≤ b) (l : List Sn) : live b (live a l) = live b l := by
  unfold live
  rw [List.filter_filter]
  congr 1
  funext q
  simp; omega
theorem live_more {a b : Int} (h : a ≤ b) (l : List Sn) : (live b l).length ≤ (live a l).length := by
  rw [← live_live h l]; exact List.length_filter_le ..

/-! ### Their cells -/
def cellsS (q : Sn) : List Value := [.int .i64 q.1, .int .i64 q.2.1, .int .i64 q.2.2.1, .int .u64 q.2.2.2]
def flatS (zs : List Sn) : List Value := zs.flatMap cellsS
/-- a session as a value -/
def V (q : Sn) : Value := .agg #[.int .i64 q.1, .int .i64 q.2.1, .int .i64 q.2.2.1, .int .u64 q.2.2.2]
theorem flatS_cons (q : Sn) (r : List Sn) : flatS (q :: r) = .int .i64 q.1 :: .int .i64 q.2.1 :: .int .i64 q.2.2.1 :: .int .u64 q.2.2.2 :: flatS r := rfl
theorem flatS_app (xs ys : List Sn) : flatS (xs ++ ys) = flatS xs ++ flatS ys := List.flatMap_append
theorem flatS_length (zs : List Sn) : (flatS zs).length = zs.length * 4 := by
  induction zs with
  | nil => rfl
  | cons q r ih => rw [flatS_cons]; simp [ih]; omega
theorem flatS_at : ∀ {zs : List Sn} {i : Nat} {q : Sn}, zs[i]? = some q → (flatS zs)[i * 4]? = some (.int .i64 q.1) ∧ (flatS zs)[i * 4 + 1]? = some (.int .i64 q.2.1) ∧ (flatS zs)[i * 4 + 2]? = some (.int .i64 q.2.2.1) ∧ (flatS zs)[i * 4 + 3]? = some (.int .u64 q.2.2.2)
  | [], _, _, h => by simp at h
  | p :: r, 0, q, h => by simp at h; subst h; simp [flatS_cons]
  | p :: r, i + 1, q, h => by
    have := flatS_at (zs := r) (i := i) (q := q) (by simpa using h)
    rw [flatS_cons, show (i + 1) * 4 = i * 4 + 1 + 1 + 1 + 1 by omega]
    simpa [Nat.add_right_comm _ 1] using this
theorem flatS_one (zs : List Sn) : ∀ u ∈ flatS zs, u.oneCell' = true := by
  intro u hu
  obtain ⟨q, _, hq⟩ := List.mem_flatMap.1 hu
  simp [cellsS] at hq
  rcases hq with rfl | rfl | rfl | rfl <;> rfl
theorem flatS_ne {zs : List Sn} (h : zs ≠ []) : flatS zs ≠ [] := by
  cases zs with
  | nil => exact absurd rfl h
  | cons q r => simp [flatS_cons]
theorem flatS_take : ∀ (zs : List Sn) (i : Nat), flatS (zs.take i) = (flatS zs).take (i * 4)
  | [], i => by simp [flatS]
  | q :: r, 0 => by simp [flatS]
  | q :: r, i + 1 => by
    rw [List.take_succ_cons, flatS_cons, flatS_cons, flatS_take r i, show (i + 1) * 4 = i * 4 + 1 + 1 + 1 + 1 by omega]; rfl
theorem flatS_drop : ∀ (zs : List Sn) (i : Nat), flatS (zs.drop i) = (flatS zs).drop (i * 4)
  | [], i => by simp [flatS]
  | q :: r, 0 => by simp [flatS]
  | q :: r, i + 1 => by
    rw [List.drop_succ_cons, flatS_cons, flatS_drop r i, show (i + 1) * 4 = i * 4 + 1 + 1 + 1 + 1 by omega]; rfl
theorem Seq.ses {w : World} {lo B : Nat} {A : Option Addr} {zs : List Sn} {i : Nat} (h : Seq w lo B A (flatS zs)) (hi : i < zs.length) : ∃ b off, A = some ⟨b, off, none⟩ ∧ lo ≤ b ∧ b < B ∧
    w.cell? ⟨b, off + i * 4, none⟩ = some (.int .i64 zs[i].1) ∧ w.cell? ⟨b, off + i * 4 + 1, none⟩ = some (.int .i64 zs[i].2.1) ∧ w.cell? ⟨b, off + i * 4 + 2, none⟩ = some (.int .i64 zs[i].2.2.1) ∧ w.cell? ⟨b, off + i * 4 + 3, none⟩ = some (.int .u64 zs[i].2.2.2) := by
  obtain ⟨b, off, e, hl, hb, hc⟩ := h (flatS_ne (by intro h0; subst h0; simp at hi))
  obtain ⟨h0, h1, h2, h3⟩ := flatS_at (List.getElem?_eq_getElem hi)
  exact ⟨b, off, e, hl, hb, hc _ _ h0, hc (i * 4 + 1) _ h1, hc (i * 4 + 2) _ h2, hc (i * 4 + 3) _ h3⟩
theorem new_four (w : World) (q : Sn) (t : TypeId) : ∀ (j : Nat) (u : Value), (cellsS q)[j]? = some u → (w.alloc (.cells #[.int .i64 q.1, .int .i64 q.2.1, .int .i64 q.2.2.1, .int .u64 q.2.2.2] t)).cell? ((⟨w.heap.size, 0, none⟩ : Addr).add j) = some u := by
  intro j u hj
  match j, hj with
  | 0, hj => simp [cellsS] at hj; subst hj; simp [Addr.add]
  | 1, hj => simp [cellsS] at hj; subst hj; simp [Addr.add]
  | 2, hj => simp [cellsS] at hj; subst hj; simp [Addr.add]
  | 3, hj => simp [cellsS] at hj; subst hj; simp [Addr.add]
theorem new_fourAt (w : World) (q : Sn) (t : TypeId) {g : Nat} (hg : g = w.heap.size) : ∀ (j : Nat) (u : Value), (cellsS q)[j]? = some u → (w.alloc (.cells #[.int .i64 q.1, .int .i64 q.2.1, .int .i64 q.2.2.1, .int .u64 q.2.2.2] t)).cell? ((⟨g, 0, none⟩ : Addr).add j) = some u := by
  subst hg; exact new_four w q t
theorem four_one (q : Sn) : ∀ u ∈ cellsS q, u.oneCell' = true := by
  intro u hu; simp [cellsS] at hu; rcases hu with rfl | rfl | rfl | rfl <;> rfl
theorem flatS_snoc (zs : List Sn) (q : Sn) : flatS (zs ++ [q]) = flatS zs ++ cellsS q := by rw [flatS_app]; rfl
/-- one session of a row written anew -/
theorem flatS_set (zs : List Sn) (i : Nat) (q : Sn) (h : i < zs.length) :
    ((((flatS zs).toArray.setIfInBounds (i * 4) (.int .i64 q.1)).setIfInBounds (i * 4 + 1) (.int .i64 q.2.1)).setIfInBounds (i * 4 + 2) (.int .i64 q.2.2.1)).setIfInBounds (i * 4 + 3) (.int .u64 q.2.2.2) = (flatS (zs.set i q)).toArray := by
  simp only [List.setIfInBounds_toArray]
  congr 1
  induction zs generalizing i with
  | nil => simp at h
  | cons p r ih =>
    cases i with
    | zero => simp [flatS_cons]
    | succ i =>
      have := ih i (by simpa using h)
      rw [List.set_cons_succ, flatS_cons, flatS_cons, ← this, show (i + 1) * 4 = i * 4 + 1 + 1 + 1 + 1 by omega]
      simp [Nat.add_right_comm _ 1]
end Go.Law
/-
  Which session of a list counts most, and the least time of a list, as plain lists. General over programs.
-/
namespace Go.Law
theorem snocInd {α : Type} {motive : List α → Prop} (nil : motive []) (snoc : ∀ l x, motive l → motive (l ++ [x])) (l : List α) : motive l := by
  rw [← List.reverse_reverse l]
  generalize l.reverse = r
  induction r with
  | nil => exact nil
  | cons x r ih => rw [List.reverse_cons]; exact snoc _ _ ih
/-- a counts more than b -/
def better (a b : Sn) : Bool := decide (b.2.2.1 < a.2.2.1) || (decide (a.2.2.1 = b.2.2.1) && decide (a.1 < b.1))
theorem better_iff (a b : Sn) : better a b = true ↔ (b.2.2.1 < a.2.2.1 ∨ (a.2.2.1 = b.2.2.1 ∧ a.1 < b.1)) := by simp [better]
theorem better_self (a : Sn) : better a a = false := by rw [Bool.eq_false_iff]; intro h; rw [better_iff] at h; omega
theorem better_trans {a b c : Sn} (h1 : better a b = true) (h2 : better b c = true) : better a c = true := by rw [better_iff] at *; omega
theorem better_asym {a b : Sn} (h : better a b = true) : better b a = false := by rw [Bool.eq_false_iff]; intro h'; rw [better_iff] at *; omega
/-- what is better than one that nothing of a kind beats, beats the kind -/
theorem better_over {a b c : Sn} (h1 : better a b = true) (h2 : better c b = false) : better a c = true := by
  rw [Bool.eq_false_iff, ne_eq, better_iff] at h2
  rw [better_iff] at *
  omega
theorem better_alike {a b : Sn} (h1 : better a b = false) (h2 : better b a = false) : a.2.2.1 = b.2.2.1 ∧ a.1 = b.1 := by
  rw [Bool.eq_false_iff, ne_eq, better_iff] at h1 h2
  omega
theorem better_no {a b : Sn} (h : better a b = false) : a.2.2.1 ≤ b.2.2.1 := by
  rw [Bool.eq_false_iff, ne_eq, better_iff] at h
  omega
def stepB : Option Sn → Sn → Option Sn
  | none, x => some x
  | some b, x => some (if better x b then x else b)
def best (l : List Sn) : Option Sn := l.foldl stepB none
/-- the session that counts most; of several the first one; of none the zero session -/
def top (l : List Sn) : Sn := (best l).getD (0, 0, 0, 0)
theorem best_snoc (l : List Sn) (x : Sn) : best (l ++ [x]) = stepB (best l) x := by simp [best, List.foldl_append]
/-- a place of a list whose session counts most, and is the first one that does -/
def First (l : List Sn) (i : Nat) (q : Sn) : Prop := l[i]? = some q ∧ (∀ (k : Nat) p, l[k]? = some p → better p q = false) ∧ (∀ (k : Nat) p, l[k]? = some p → k < i → better q p = true)
theorem best_first (l : List Sn) : (l = [] ∧ best l = none) ∨ ∃ i q, First l i q ∧ best l = some q := by
  induction l using snocInd with
  | nil => exact .inl ⟨rfl, rfl⟩
  | snoc l x ih =>
    refine .inr ?_
    rcases ih with ⟨rfl, h⟩ | ⟨i, q, ⟨h1, h2, h3⟩, h⟩
    · refine ⟨0, x, ⟨rfl, fun k p hp => ?_, fun k p hp hk => by omega⟩, rfl⟩
      cases k with
      | zero => simp at hp; subst hp; exact better_self _
      | succ k => simp at hp
    · have hi : i < l.length := (List.getElem?_eq_some_iff.1 h1).1
      rw [best_snoc, h]
      by_cases hb : better x q = true
      · refine ⟨l.length, x, ⟨by simp, fun k p hp => ?_, fun k p hp hk => ?_⟩, by simp [stepB, hb]⟩
        · by_cases hk : k < l.length
          · rw [List.getElem?_append_left hk] at hp
            have := h2 k p hp
            rw [Bool.eq_false_iff]
            intro hpx
            rw [better_trans hpx hb] at this
            cases this
          · rw [List.getElem?_append_right (by omega)] at hp
            have hk0 : k - l.length = 0 := by
              have := (List.getElem?_eq_some_iff.1 hp).1
              simp at this; omega
            rw [hk0] at hp; simp at hp; subst hp; exact better_self _
        · rw [List.getElem?_append_left hk] at hp
          exact better_over hb (h2 k p hp)
      · have hb' : better x q = false := by simpa using hb
        refine ⟨i, q, ⟨by rw [List.getElem?_append_left hi]; exact h1, fun k p hp => ?_, fun k p hp hk => ?_⟩, by simp [stepB, hb']⟩
        · by_cases hk : k < l.length
          · rw [List.getElem?_append_left hk] at hp
            exact h2 k p hp
          · rw [List.getElem?_append_right (by omega)] at hp
            have hk0 : k - l.length = 0 := by
              have := (List.getElem?_eq_some_iff.1 hp).1
              simp at this; omega
            rw [hk0] at hp; simp at hp; subst hp; exact hb'
        · rw [List.getElem?_append_left (by omega)] at hp
          exact h3 k p hp hk
theorem top_nil : top [] = (0, 0, 0, 0) := rfl
/-- one session more -/
theorem top_snoc (l : List Sn) (x : Sn) : top (l ++ [x]) = if l.length = 0 ∨ better x (top l) = true then x else top l := by
  unfold top
  rw [best_snoc]
  rcases best_first l with ⟨rfl, h⟩ | ⟨i, q, h1, h⟩
  · rw [h]; simp [stepB]
  · have : l.length ≠ 0 := by
      have := (List.getElem?_eq_some_iff.1 h1.1).1
      omega
    rw [h]
    by_cases hb : better x q = true
    · simp [stepB, hb]
    · simp [stepB, hb, this]
theorem top_first {l : List Sn} (h : l ≠ []) : ∃ i, First l i (top l) := by
  rcases best_first l with ⟨rfl, _⟩ | ⟨i, q, h1, h2⟩
  · exact absurd rfl h
  · exact ⟨i, by unfold top; rw [h2]; exact h1⟩
theorem top_mem {l : List Sn} (h : l ≠ []) : top l ∈ l := by
  obtain ⟨i, hi⟩ := top_first h
  exact List.mem_of_getElem? hi.1
theorem top_most {l : List Sn} {p : Sn} (h : p ∈ l) : better p (top l) = false := by
  obtain ⟨i, hi⟩ := top_first (l := l) (by intro e; subst e; cases h)
  obtain ⟨k, hk, e⟩ := List.getElem_of_mem h
  exact hi.2.1 k p (by rw [List.getElem?_eq_getElem hk, e])
/-- the reference's test of a place: nobody counts more, and nobody ahead of it counts alike -/
def beats (k i : Nat) (p q : Sn) : Bool := decide (q.2.2.1 < p.2.2.1) || (decide (p.2.2.1 = q.2.2.1) && (decide (p.1 < q.1) || (decide (p.1 = q.1) && decide (k < i))))
theorem beats_iff {k i : Nat} {p q : Sn} : beats k i p q = true ↔ (better p q = true ∨ (p.2.2.1 = q.2.2.1 ∧ p.1 = q.1 ∧ k < i)) := by
  simp only [beats, better, Bool.or_eq_true, Bool.and_eq_true, decide_eq_true_eq]
  constructor
  · rintro (h | ⟨h1, h2 | ⟨h3, h4⟩⟩)
    · exact .inl (.inl h)
    · exact .inl (.inr ⟨h1, h2⟩)
    · exact .inr ⟨h1, h3, h4⟩
  · rintro ((h | ⟨h1, h2⟩) | ⟨h1, h3, h4⟩)
    · exact .inl h
    · exact .inr ⟨h1, .inl h2⟩
    · exact .inr ⟨h1, .inr ⟨h3, h4⟩⟩
/-- nobody beats place i -/
def Picks (l : List Sn) (i : Nat) : Prop := ∀ (k : Nat) p q, l[k]? = some p → l[i]? = some q → beats k i p q = false
theorem picks_top {l : List Sn} {i : Nat} {q : Sn} (hq : l[i]? = some q) (h : Picks l i) : q = top l := by
  obtain ⟨j, hj1, hj2, hj3⟩ := top_first (l := l) (by intro e; subst e; simp at hq)
  rcases Nat.lt_trichotomy i j with hij | rfl | hij
  · have h1 := hj3 i q hq hij
    have h2 := h j _ q hj1 hq
    rw [Bool.eq_false_iff, ne_eq, beats_iff] at h2
    exact absurd (.inl h1) h2
  · rw [hj1] at hq; exact (Option.some.inj hq).symm
  · have h2 := h j _ q hj1 hq
    rw [Bool.eq_false_iff, ne_eq, beats_iff] at h2
    have h3 := hj2 i q hq
    have h4 : better (top l) q = false := by rw [Bool.eq_false_iff]; intro h; exact h2 (.inl h)
    obtain ⟨e1, e2⟩ := better_alike h4 h3
    exact absurd (.inr ⟨e1, e2, hij⟩) h2
theorem some_picks {l : List Sn} (h : l ≠ []) : ∃ i, i < l.length ∧ Picks l i := by
  obtain ⟨j, hj1, hj2, hj3⟩ := top_first h
  refine ⟨j, (List.getElem?_eq_some_iff.1 hj1).1, fun k p q hp hq => ?_⟩
  rw [hj1] at hq
  obtain rfl := Option.some.inj hq
  rw [Bool.eq_false_iff, ne_eq, beats_iff]
  rintro (h1 | ⟨h1, h2, h3⟩)
  · rw [hj2 k p hp] at h1; cases h1
  · have := hj3 k p hp h3
    rw [better_iff] at this
    omega
/-- of two lists of the same sessions, no two of one id, the same session counts most -/
theorem top_same {l m : List Sn} (hu : ∀ a b, a ∈ l → b ∈ l → a.1 = b.1 → a = b) (h : ∀ q, q ∈ l ↔ q ∈ m) : top l = top m := by
  by_cases hl : l = []
  · subst hl
    have hm : m = [] := List.eq_nil_iff_forall_not_mem.2 fun q hq => by have := (h q).2 hq; cases this
    rw [hm]
  · have hm : m ≠ [] := fun e => by subst e; have := (h _).1 (top_mem hl); cases this
    have h1 := top_most ((h _).2 (top_mem hm))
    have h2 := top_most ((h _).1 (top_mem hl))
    obtain ⟨_, e⟩ := better_alike h1 h2
    exact hu _ _ (top_mem hl) ((h _).2 (top_mem hm)) e.symm
/-! ### The least time -/
def stepN : Option Int → Sn → Option Int
  | none, x => some x.2.2.2
  | some u, x => some (if x.2.2.2 < u then x.2.2.2 else u)
def least (l : List Sn) : Option Int := l.foldl stepN none
theorem least_snoc (l : List Sn) (x : Sn) : least (l ++ [x]) = stepN (least l) x := by simp [least, List.foldl_append]
theorem least_none {l : List Sn} (h : least l = none) : l = [] := by
  induction l using snocInd with
  | nil => rfl
  | snoc l x _ => rw [least_snoc] at h; cases h' : least l <;> rw [h'] at h <;> cases h
theorem least_le {l : List Sn} {u : Int} (h : least l = some u) {q : Sn} (hq : q ∈ l) : u ≤ q.2.2.2 := by
  induction l using snocInd generalizing u with
  | nil => cases hq
  | snoc l x ih =>
    rw [least_snoc] at h
    cases h' : least l with
    | none =>
      obtain rfl := least_none h'
      simp [h', stepN] at h hq
      subst hq; omega
    | some v =>
      rw [h'] at h
      simp only [stepN, Option.some.injEq] at h
      rcases List.mem_append.1 hq with hq | hq
      · have := ih h' hq
        split at h <;> omega
      · simp at hq; subst hq
        split at h <;> omega
/-- till then the same sessions live -/
theorem live_till {now then_ : Int} (l : List Sn) (h1 : now ≤ then_) (h2 : ∀ u, least (live now l) = some u → then_ < u) : live then_ l = live now l := by
  unfold live
  refine List.filter_congr fun q hq => ?_
  by_cases h : now < q.2.2.2
  · have hm : q ∈ live now l := List.mem_filter.2 ⟨hq, by simpa using h⟩
    cases h' : least (live now l) with
    | none => rw [least_none h'] at hm; cases hm
    | some u =>
      have := least_le h' hm
      have := h2 u h'
      simp; omega
  · simp; omega
end Go.Law
