/-
  A slice that reads as a list, nil let in. General over programs.
-/
import Derived.Test.YtdfonlbbohnfhaaDoorTk
import Derived.Test.YtdfonlbbohnfhaaDoorFrame
import Derived.SliceStrings
import Derived.Deep.AppendLies
import Derived.OwnWalk
import Derived.Maps.AppendAt
import Derived.RegionTactic
namespace Go.Law
open Go.RowKit Go.ChangeShapes Go.WideShapes Go.ChangeAt

/-- the slice at A holds the cells xs, in a block from lo on, below B -/
def Seq (w : World) (lo B : Nat) (A : Option Addr) (xs : List Value) : Prop :=
  xs ≠ [] → ∃ b off, A = some ⟨b, off, none⟩ ∧ lo ≤ b ∧ b < B ∧ ∀ i u, xs[i]? = some u → w.cell? ⟨b, off + i, none⟩ = some u
section
variable {w w' : World} {lo B lo' B' : Nat} {A : Option Addr} {xs : List Value}
theorem Seq.nil : Seq w lo B A [] := fun h => absurd rfl h
theorem Seq.at {i : Nat} (h : Seq w lo B A xs) (hi : i < xs.length) : ∃ b off, A = some ⟨b, off, none⟩ ∧ lo ≤ b ∧ b < B ∧ w.cell? ⟨b, off + i, none⟩ = some xs[i] := by
  obtain ⟨b, off, e, hl, hb, hc⟩ := h (by intro h0; subst h0; simp at hi)
  exact ⟨b, off, e, hl, hb, hc i _ (List.getElem?_eq_getElem hi)⟩
theorem Seq.str {us : List ByteArray} {i : Nat} (h : Seq w lo B A (us.map .string)) (hi : i < us.length) : ∃ b off, A = some ⟨b, off, none⟩ ∧ lo ≤ b ∧ b < B ∧ w.cell? ⟨b, off + i, none⟩ = some (.string us[i]) := by
  obtain ⟨b, off, e, hl, hb, hc⟩ := h.at (i := i) (by simpa using hi)
  exact ⟨b, off, e, hl, hb, by simpa using hc⟩
theorem Seq.int {k : IntKind} {zs : List Int} {i : Nat} (h : Seq w lo B A (zs.map (.int k))) (hi : i < zs.length) : ∃ b off, A = some ⟨b, off, none⟩ ∧ lo ≤ b ∧ b < B ∧ w.cell? ⟨b, off + i, none⟩ = some (.int k zs[i]) := by
  obtain ⟨b, off, e, hl, hb, hc⟩ := h.at (i := i) (by simpa using hi)
  exact ⟨b, off, e, hl, hb, by simpa using hc⟩
theorem Seq.keep (h : Seq w lo B A xs) (hk : ∀ p : Addr, lo ≤ p.block → p.block < B → w'.cell? p = w.cell? p) : Seq w' lo B A xs := fun hn => by
  obtain ⟨b, off, e, hl, hb, hc⟩ := h hn
  exact ⟨b, off, e, hl, hb, fun i u hu => (hk ⟨b, off + i, none⟩ hl hb).trans (hc i u hu)⟩
theorem Seq.more (h : Seq w lo B A xs) (hB : B ≤ B') : Seq w lo B' A xs := fun hn => by
  obtain ⟨b, off, e, hl, hb, hc⟩ := h hn
  exact ⟨b, off, e, hl, by omega, hc⟩
theorem Seq.from_ (h : Seq w lo B A xs) (hl : lo' ≤ lo) : Seq w lo' B A xs := fun hn => by
  obtain ⟨b, off, e, hl', hb, hc⟩ := h hn
  exact ⟨b, off, e, by omega, hb, hc⟩
theorem Seq.below (h : Seq w lo B A xs) (hb : Below B w w') : Seq w' lo B A xs := h.keep fun _ _ hp => hb.cell hp
theorem Seq.store (h : Seq w lo B A xs) {p : Addr} (hp : p.block < lo ∨ B ≤ p.block) (u : Value) : Seq (w.setCell p u) lo B A xs :=
  h.keep fun q h1 h2 => World.cell?_setCell_other w p q u (fun e => by subst e; omega)
theorem Seq.alloc (h : Seq w lo B A xs) (hB : B ≤ w.heap.size) (o : Obj) : Seq (w.alloc o) lo B A xs := h.keep fun p _ hp => World.cell?_alloc_lt w o p (by omega)
theorem Seq.grown (h : Seq w lo B A xs) {row : Option Nat} (hg : w.grownBy w' row) (hB : B ≤ w.heap.size) (hr : ∀ g, row = some g → g < lo ∨ B ≤ g) : Seq w' lo B A xs :=
  h.keep fun p h1 h2 => World.cell?_of_block (hg.block p.block (by omega) (fun e => by have := hr _ e.symm; omega))
theorem Seq.own {base : Nat} {e : TypeId} {size n c : Nat} (h : w.ownsRow base e size (.slice A n c) n xs) : Seq w base w.heap.size A xs := fun hn => by
  have hl : xs.length = n * size := h.1
  obtain ⟨g, cap, hv, hb, hlt⟩ := h.form (by rcases Nat.eq_zero_or_pos n with h0 | h0; · subst h0; exact absurd (List.eq_nil_of_length_eq_zero (by omega)) hn
                                             · exact h0)
  have hA : A = some ⟨g, 0, none⟩ := by injection hv
  subst hA
  refine ⟨g, 0, rfl, hb, hlt, fun i u hu => ?_⟩
  have := h.cells (g := g) rfl i u hu
  rcases Nat.eq_zero_or_pos i with h0 | h0
  · subst h0; simpa [Addr.add] using this
  · simpa [Addr.add, show i ≠ 0 by omega] using this
theorem Seq.adds (h : Seq w lo B A xs) {a : Addr} (hA : A = some a) : ∀ j u, xs[j]? = some u → w.cell? (a.add j) = some u := fun j u hu => by
  obtain ⟨b, off, e, _, _, hc⟩ := h (by intro h0; subst h0; simp at hu)
  rw [hA] at e
  obtain rfl := Option.some.inj e
  have := hc j u hu
  rcases Nat.eq_zero_or_pos j with h0 | h0
  · subst h0; simpa [Addr.add] using this
  · simpa [Addr.add, show j ≠ 0 by omega] using this
/-- a part of it: 's[i:j]', whatever the address that the model gives an empty one -/
theorem Seq.part (h : Seq w lo B A xs) {A' : Option Addr} {i n : Nat} (hA : ∀ b off, A = some ⟨b, off, none⟩ → i < xs.length → 0 < n → A' = some ⟨b, off + i, none⟩) : Seq w lo B A' ((xs.drop i).take n) := fun hn => by
  have hi : i < xs.length := by
    rcases Nat.lt_or_ge i xs.length with hlt | hge
    · exact hlt
    · exact absurd (by rw [List.drop_of_length_le hge]; simp) hn
  have h0 : 0 < n := by
    rcases Nat.eq_zero_or_pos n with hz | hz
    · subst hz; simp at hn
    · exact hz
  obtain ⟨b, off, e, hl, hb, hc⟩ := h (by intro h0; subst h0; simp at hi)
  refine ⟨b, off + i, hA b off e hi h0, hl, hb, fun j u hu => ?_⟩
  rw [Nat.add_assoc]
  refine hc (i + j) u ?_
  rw [List.getElem?_take] at hu
  split at hu
  · rwa [List.getElem?_drop] at hu
  · cases hu
end

/-- a slice of texts that came in -/
theorem open_texts {H : Type} {enc : TypeId × Value → H} {P : Program} {t e : TypeId} (ht : P.underlying t = some (.slice e)) (he : P.underlying e = some .string) (hc1 : P.cellsOf e = 1)
    {W : World} {base b0 : Nat} {sp : Nat → Bool} {hd : Bool} {v : Value} {d : DataW H} {p : List MemPlace}
    (hv : Value.okWide P W .any b0 t v) (h : DataW.Trod enc P W base sp hd t v d p) :
    ∃ (A : Option Addr) (c : Nat) (us : List ByteArray), v = .slice A us.length c ∧ Seq W 0 W.heap.size A (us.map .string) ∧ us.length ≤ maxLen ∧ us.length ≤ c ∧ ∀ u ∈ us, u.size ≤ maxLen := by
  obtain ⟨a, n, c, rfl⟩ := okWide_slice ht hv
  obtain ⟨fuel, hf⟩ := h
  rcases open_strings ht he hc1 hf with ⟨hcs, _⟩ | ⟨x, l, k, ss, hcs, _, hl, hm, hz, hx, hcell, hwz⟩
  · simp [Value.cells] at hcs
    obtain ⟨rfl, rfl, rfl⟩ := hcs
    exact ⟨none, 0, [], rfl, Seq.nil, by simp, by simp, by simp⟩
  · simp [Value.cells] at hcs
    obtain ⟨rfl, rfl, rfl⟩ := hcs
    have hlen : n ≤ ss.length := by rw [hz]; split <;> omega
    have hl2 : (ss.take n).length = n := by simp; omega
    refine ⟨some x, c, ss.take n, by rw [hl2], fun hne => ?_, by omega, by omega, fun u hu => hwz u (List.mem_of_mem_take hu)⟩
    have hn : 0 < n := by
      rcases Nat.eq_zero_or_pos n with h0 | h0
      · subst h0; simp at hne
      · exact h0
    obtain ⟨b, off, spot⟩ := x
    have hspot : spot = none := by simpa [Addr.add] using World.cell?_spot (hcell 0 (by omega))
    subst hspot
    refine ⟨b, off, rfl, Nat.zero_le _, World.block_lt_of_cell? W ⟨b, off, none⟩ (by simpa [Addr.add] using hcell 0 (by omega)), fun i u hu => ?_⟩
    have hi : i < n := by
      have := (List.getElem?_eq_some_iff.1 hu).1
      simp at this; omega
    have hi' : i < ss.length := by omega
    have e1 : u = .string ss[i] := by
      simp [hi] at hu
      obtain ⟨y, hy, rfl⟩ := hu
      rw [List.getElem?_eq_getElem hi'] at hy
      rw [Option.some.inj hy]
    have := hcell i (by omega)
    rw [e1]
    simp only [List.getD_eq_getElem?_getD, List.getElem?_eq_getElem hi', Option.getD_some] at this
    by_cases h0 : i = 0
    · subst h0
      simpa [Addr.add] using this
    · simpa [Addr.add, h0] using this
/-- a block of eight cells, each written once -/
theorem Is.fill8 {w : World} {g : Nat} {t : TypeId} {cs : Array Value} (h : Is w g t cs) (hs : cs.size = 8) (a0 a1 a2 a3 a4 a5 a6 a7 : Value) :
    Is ((((((((w.setCell ⟨g, 0, none⟩ a0).setCell ⟨g, 1, none⟩ a1).setCell ⟨g, 2, none⟩ a2).setCell ⟨g, 3, none⟩ a3).setCell ⟨g, 4, none⟩ a4).setCell ⟨g, 5, none⟩ a5).setCell ⟨g, 6, none⟩ a6).setCell ⟨g, 7, none⟩ a7) g t #[a0, a1, a2, a3, a4, a5, a6, a7] := by
  refine (((((((h.set 0 a0 rfl).set 1 a1 rfl).set 2 a2 rfl).set 3 a3 rfl).set 4 a4 rfl).set 5 a5 rfl).set 6 a6 rfl).set 7 a7 ?_
  obtain ⟨l⟩ := cs
  match l, hs with
  | [_, _, _, _, _, _, _, _], _ => simp
theorem Is.grown {w w' : World} {g : Nat} {t : TypeId} {cs : Array Value} {row : Option Nat} (h : Is w g t cs) (hg : w.grownBy w' row) (hne : row ≠ some g) : Is w' g t cs := (hg.block g h.lt (fun e => hne e.symm)).trans h
/-- an own row and a block of another element type are two blocks -/
theorem own_ne {w : World} {g : Nat} {t : TypeId} {cs : Array Value} {base : Nat} {e : TypeId} {size n : Nat} {v : Value} {xs : List Value} (h : w.ownsRow base e size v n xs) (hg : Is w g t cs) (hne : e ≠ t) : v.ownBlock ≠ some g := by
  rcases h.2 with ⟨rfl, _⟩ | ⟨k, cap, cur, rfl, _, hh, _⟩
  · simp [Value.ownBlock]
  · intro he
    have : k = g := by simpa [Value.ownBlock] using he
    subst this
    unfold Is at hg
    rw [hh] at hg
    simp at hg
    exact hne hg.2
/-- the cells of 'append(l, x)': x lies in a new block of one cell -/
theorem new_one (w : World) (x : Value) (t : TypeId) : ∀ (j : Nat) (u : Value), [x][j]? = some u → (w.alloc (.cells #[x] t)).cell? ((⟨w.heap.size, 0, none⟩ : Addr).add j) = some u := by
  intro j u hj
  match j, hj with
  | 0, hj => simp at hj; subst hj; simp [Addr.add]
theorem one_int (k : IntKind) (z : Int) : ∀ u ∈ [Value.int k z], u.oneCell' = true := by
  intro u hu; simp at hu; subst hu; rfl
theorem beq_cast (a b : Nat) : ((a : Int) == (b : Int)) = (a == b) := by rw [Bool.eq_iff_iff]; simp; omega
theorem below_drewN {B : Nat} {a w : World} (h : Below B a w) (n : Nat) : Below B a (w.drewN n) := ⟨h.os, h.tape, h.output, h.size, h.block⟩
/-- a world out of which some orders were drawn -/
def Drawn (w wr : World) : Prop := ∃ d, wr = w.drewN d
section
variable {w wr : World}
theorem Drawn.refl (w : World) : Drawn w w := ⟨0, rfl⟩
theorem Drawn.drewN (h : Drawn w wr) (n : Nat) : Drawn w (wr.drewN n) := by
  obtain ⟨d, rfl⟩ := h
  exact ⟨d + n, World.drewN_drewN _ _ _⟩
theorem Drawn.drew (h : Drawn w wr) : Drawn w wr.drew := h.drewN 1
theorem Drawn.cell (h : Drawn w wr) (p : Addr) : wr.cell? p = w.cell? p := by obtain ⟨d, rfl⟩ := h; rfl
theorem Drawn.size (h : Drawn w wr) : wr.heap.size = w.heap.size := by obtain ⟨d, rfl⟩ := h; rfl
theorem Drawn.below {B : Nat} {a : World} (h : Drawn w wr) (hb : Below B a w) : Below B a wr := by obtain ⟨d, rfl⟩ := h; exact below_drewN hb _
theorem Drawn.seq {lo B : Nat} {A : Option Addr} {xs : List Value} (h : Drawn w wr) (hs : Seq w lo B A xs) : Seq wr lo B A xs := hs.keep fun p _ _ => h.cell p
end
/-- a callee that only computes, in a region that draws its order -/
theorem quiet {P : Program} {f : FuncId} {args : Array Value} {w : World} {n : Nat} {v : Value}
    (h : Calls P f args (w.drewN n) fun e w' => e = .returned v ∧ w.drewN n = w') : Calls P f args (w.drewN n) fun e w'' => e = .returned v ∧ ∃ m, w'' = w.drewN m :=
  h.mono fun _ _ ⟨he, hm⟩ => ⟨he, n, hm.symm⟩

/-! ### append from whatever slice -/
section
variable {P : Program} (w : World) (base : Nat) (t : TypeId) {e : TypeId} {i : TypeInfo} {z : Value} {size bytes : Nat}
/-- what is known of an element type -/
structure Elem (P : Program) (t e : TypeId) (i : TypeInfo) (z : Value) (size bytes : Nat) : Prop where
  ut : P.underlying t = some (.slice e)
  info : P.info? e = some i
  zero : i.zero = some z
  sz : i.size = size
  by_ : i.bytes = bytes
  cells : z.cells.size = size
  pos : 0 < size
theorem Elem.of {P : Program} {t e : TypeId} {z : Value} {size bytes : Nat} (ut : P.underlying t = some (.slice e)) (h : (P.info? e).map (fun i => (i.zero, i.size, i.bytes)) = some (some z, size, bytes)) (hc : z.cells.size = size) (hp : 0 < size) : ∃ i, Elem P t e i z size bytes := by
  obtain ⟨i, h1, h2, h3, h4⟩ := info_parts h
  exact ⟨i, ut, h1, h2, h3, h4, hc, hp⟩
theorem run_append_seq (E : Elem P t e i z size bytes) (ty : TypeId) (v : Value) (n : Nat) (xs : List Value) (hown : w.ownsRow base e size v n xs)
    (lo B : Nat) (A : Option Addr) (m c : Nat) (news : List Value) (hl : news.length = m * size) (hr : Seq w lo B A news) (h1 : ∀ u ∈ news, u.oneCell' = true)
    (h63 : n + m ≤ maxLen) (hbytes : (n + m) * bytes ≤ 140737488355328) (hbase : base ≤ w.heap.size) :
    ∃ v' w', (Builtin.append_ #[t, t] ty #[v, .slice A m c]).run P w = .ok v' w' ∧ w'.ownsRow base e size v' (n + m) (xs ++ news) ∧ w.grownBy w' v.ownBlock := by
  match hA : A with
  | some ad =>
    obtain ⟨v', w', hrun, h2, h3, _⟩ := run_append_own_at (P := P) w base t ty e i z size bytes E.ut E.info E.zero E.sz E.by_ E.cells E.pos v n xs hown ad m c news hl (hr.adds rfl) h1 h63 hbytes hbase
    exact ⟨v', w', hrun, h2, h3⟩
  | none =>
    have hn : news = [] := by
      rcases news with _ | ⟨u, us⟩
      · rfl
      · obtain ⟨_, _, h, _⟩ := hr (by simp)
        cases h
    subst hn
    have hm : m = 0 := by
      rcases Nat.eq_zero_or_pos m with h0 | h0
      · exact h0
      · have := Nat.mul_pos h0 E.pos
        simp at hl
        omega
    subst hm
    refine ⟨v, w, ?_, by simpa using hown, World.grownBy.refl w _⟩
    rcases hown.2 with ⟨rfl, rfl⟩ | ⟨g, cap, cur, rfl, _, _, hnc, _⟩
    · simp [Builtin.append_, run_underlying E.ut, sizeOf, typeInfo, E.info, Builtin.lenOf, Builtin.firstCells]
    · simp [Builtin.append_, run_underlying E.ut, sizeOf, typeInfo, E.info, Builtin.lenOf, Builtin.firstCells, hnc, storeCells]
theorem wp_append_seq {o : Oper} {a : Act} {K : Act → World → Prop} {Q : Exit → Act → World → Prop} (s x : Operand)
    (ho : o.op = .call { callee := .builtin .append, args := #[s, x], argTypes := #[t, t] }) (E : Elem P t e i z size bytes)
    (v : Value) (n : Nat) (xs : List Value) (hs : a.eval s = v) (hown : w.ownsRow base e size v n xs)
    (lo B : Nat) (A : Option Addr) (m c : Nat) (news : List Value) (hx : a.eval x = .slice A m c) (hl : news.length = m * size) (hr : Seq w lo B A news) (h1 : ∀ u ∈ news, u.oneCell' = true)
    (h63 : n + m ≤ maxLen) (hbytes : (n + m) * bytes ≤ 140737488355328) (hbase : base ≤ w.heap.size)
    (h : ∀ v' w', w'.ownsRow base e size v' (n + m) (xs ++ news) → w.grownBy w' v.ownBlock → K (a.put o.dst v') w') : o.wp P a w K Q := by
  obtain ⟨v', w', hrun, h2, h3⟩ := run_append_seq w base t E o.type v n xs hown lo B A m c news hl hr h1 h63 hbytes hbase
  unfold Oper.wp execOp
  simp only [ho, resolve, invoke, builtin, Sem.run_bind, Sem.run_pure, Result.andThen_ok, List.map_toArray, List.map_cons, List.map_nil, hs, hx, hrun]
  exact h v' w' h2 h3
theorem wpList_append_seq {ops : Array Oper} {rest : List Oper} {o : Oper} {a : Act} {Q : Exit → Act → World → Prop} (hgd : o.guard = none) (s x : Operand)
    (ho : o.op = .call { callee := .builtin .append, args := #[s, x], argTypes := #[t, t] }) (E : Elem P t e i z size bytes)
    (v : Value) (n : Nat) (xs : List Value) (hs : a.eval s = v) (hown : w.ownsRow base e size v n xs)
    (lo B : Nat) (A : Option Addr) (m c : Nat) (news : List Value) (hx : a.eval x = .slice A m c) (hl : news.length = m * size) (hr : Seq w lo B A news) (h1 : ∀ u ∈ news, u.oneCell' = true)
    (h63 : n + m ≤ maxLen) (hbytes : (n + m) * bytes ≤ 140737488355328) (hbase : base ≤ w.heap.size)
    (h : ∀ v' w', w'.ownsRow base e size v' (n + m) (xs ++ news) → w.grownBy w' v.ownBlock → wpList P ops Q rest (a.put o.dst v') w') : wpList P ops Q (o :: rest) a w :=
  wpList_plain hgd fun _ hK => wp_append_seq w base t s x ho E v n xs hs hown lo B A m c news hx hl hr h1 h63 hbytes hbase fun v' w' h2 h3 => hK _ _ (h v' w' h2 h3)
theorem step_append_seq {ops : Array Oper} {o : Oper} {a : Act} {K : Act → World → Prop} {Q : Exit → Act → World → Prop} {X : Prop} (hgd : o.guard = none) (s x : Operand)
    (ho : o.op = .call { callee := .builtin .append, args := #[s, x], argTypes := #[t, t] }) (E : Elem P t e i z size bytes)
    (v : Value) (n : Nat) (xs : List Value) (hs : a.eval s = v) (hown : w.ownsRow base e size v n xs)
    (lo B : Nat) (A : Option Addr) (m c : Nat) (news : List Value) (hx : a.eval x = .slice A m c) (hl : news.length = m * size) (hr : Seq w lo B A news) (h1 : ∀ u ∈ news, u.oneCell' = true)
    (h63 : n + m ≤ maxLen) (hbytes : (n + m) * bytes ≤ 140737488355328) (hbase : base ≤ w.heap.size)
    (h : ∀ v' w', w'.ownsRow base e size v' (n + m) (xs ++ news) → w.grownBy w' v.ownBlock → K (a.put o.dst v') w') :
    if Region.wanted o (yielded ops a.tmps) = true then Oper.wp P o a w K Q else X := by
  rw [if_pos (by simp [Region.wanted, hgd])]
  exact wp_append_seq w base t s x ho E v n xs hs hown lo B A m c news hx hl hr h1 h63 hbytes hbase h
end
theorem str_one (us : List ByteArray) : ∀ u ∈ us.map Value.string, u.oneCell' = true := by
  intro u hu
  obtain ⟨_, _, rfl⟩ := List.mem_map.1 hu
  rfl
theorem own_shape {w : World} {base : Nat} {e : TypeId} {size n : Nat} {v : Value} {xs : List Value} (h : w.ownsRow base e size v n xs) : ∃ A c, v = .slice A n c ∧ n ≤ c := by
  rcases h.2 with ⟨rfl, rfl⟩ | ⟨g, cap, cur, rfl, _, _, hn, _⟩
  · exact ⟨none, 0, rfl, Nat.le_refl _⟩
  · exact ⟨_, _, rfl, hn⟩
theorem own_below {w w' : World} {base : Nat} {e : TypeId} {size n : Nat} {v : Value} {xs : List Value} (h : w.ownsRow base e size v n xs) (hb : Below w.heap.size w w') : w'.ownsRow base e size v n xs := by
  refine ⟨h.1, ?_⟩
  rcases h.2 with hn | ⟨g, cap, cur, rfl, hg, hgg, rest⟩
  · exact .inl hn
  · exact .inr ⟨g, cap, cur, rfl, hg, (hb.block g (Array.getElem?_eq_some_iff.1 hgg).1).trans hgg, rest⟩
theorem own_drewN {w : World} {base : Nat} {e : TypeId} {size n : Nat} {v : Value} {xs : List Value} (h : w.ownsRow base e size v n xs) (k : Nat) : (w.drewN k).ownsRow base e size v n xs := h
end Go.Law
