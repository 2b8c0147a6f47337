/-
  The frame of every statement that only makes new memory: from 'returns true, and nothing old has turned' to the row's own post. General over programs.
-/
import Derived.WalkKit
import Derived.ProofKit
import Derived.OpenShut
import Derived.ChangeOld
import Derived.Below
import Derived.Deep.Draws
import Derived.Laws.Rows
import Derived.Laws.OwnMore
import Derived.SliceStrings
import Derived.Deep.AppendLies
import Derived.OwnWalk
import Derived.Maps.AppendAt
import Derived.RegionTactic
namespace Go.Law
open Go.ChangeShapes Go.WideShapes Go.ChangeAt Go.RowKit

theorem trodAll_below {H : Type} {enc : TypeId × Value → H} {P : Program} (hl : laidOutB P = true) {W W' : World} (hb : Below W.heap.size W W') :
    ∀ (ts : List TypeId) (vs : List Value) (ds : List (DataW H)) (ps : List MemPlace), (ts.all fun t => P.readableRec t && decide (t < P.types.size)) = true →
      DataW.TrodAll enc P W 0 (fun _ => true) true ts vs ds ps → (∀ x ∈ ps, x.block < W.heap.size) →
      DataW.TrodAll enc P W' 0 (fun b => decide (b < W.heap.size)) true ts vs ds ps
  | [], vs, ds, ps, _, h, _ => by
    obtain ⟨rfl, rfl, rfl⟩ := trodAll_nil h
    exact trodAll_mk0
  | t :: ts, vs, ds, ps, ht, h, hlt => by
    obtain ⟨v, vs', d, ds', p, q, rfl, rfl, rfl, hd, hr⟩ := trodAll_cons h
    simp only [List.all_cons, Bool.and_eq_true, decide_eq_true_eq] at ht
    exact trodAll_cons_mk (Below.trod hl ht.1.1 ht.1.2 hd hb (fun x hx => hlt x (by simp [hx])))
      (trodAll_below hl hb ts vs' ds' q (by simpa using ht.2) hr (fun x hx => hlt x (by simp [hx])))

theorem trodAll_length {H : Type} {enc : TypeId × Value → H} {P : Program} {W : World} {b : Nat} {sp : Nat → Bool} {hd : Bool} :
    ∀ (ts : List TypeId) (vs : List Value) (ds : List (DataW H)) (ps : List MemPlace), DataW.TrodAll enc P W b sp hd ts vs ds ps → ds.length = ts.length
  | [], vs, ds, ps, h => by
    obtain ⟨rfl, rfl, rfl⟩ := trodAll_nil h
    rfl
  | t :: ts, vs, ds, ps, h => by
    obtain ⟨v, vs', d, ds', p, q, rfl, rfl, rfl, hd, hr⟩ := trodAll_cons h
    simp [trodAll_length ts vs' ds' q hr]

/-- the post of a statement's row -/
theorem post_law {H : Type} {enc : TypeId × Value → H} {P : Program} {f : Func} {s : ChangeSpec} {W W' : World} {args : Array Value} {ds gs : List (DataW H)} {before : List MemPlace} {tb : TypeId}
    (hl : laidOutB P = true) (hread : (f.params.toList.all fun t => P.readableRec t && decide (t < P.types.size)) = true)
    (hres : f.resultTypes = #[tb]) (hbool : P.underlying tb = some .bool) (hvars : s.vars = [])
    (hspec : ∀ ds : List (DataW H), ds.length = f.params.toList.length → s.fn H (ds ++ []) = { results := [.lit (.bool true)], args := ds })
    (hW : DataW.Whole enc P f.params.toList s.vars false W args.toList ds gs before) (bel : Below W.heap.size W W') :
    s.post enc P f false true false false W args (.bool true) W' := by
  have hlt : ∀ p ∈ before, p.block < W.heap.size := fun p hp => hW.lt p hp
  have hW' := hW
  obtain ⟨p, q, hA, hV, rfl, _, _⟩ := hW
  rw [hvars] at hV
  obtain ⟨rfl, rfl⟩ := trodVars_none hV
  have hs := hspec ds (trodAll_length _ _ _ _ hA)
  refine ⟨ds, [], p ++ [], [], p, [], hW', ?_, ?_, ?_, bel.frame _, fun h => by cases h⟩
  · rw [hs, hres]
    exact trodAll_mk1 (shut_bool hbool _)
  · rw [hs]
    exact trodAll_below hl bel _ _ _ _ hread hA (fun x hx => hlt x (by simp [hx]))
  · rw [hs, hvars]
    rfl

end Go.Law
namespace Go.Law
open Go.RowKit
/-- what 'Below' says of cells and marks, as rules of the walk -/
theorem bcell {W w1 : World} (hb : Below W.heap.size W w1) : (∀ b o, b < W.heap.size → w1.cell? ⟨b, o, none⟩ = W.cell? ⟨b, o, none⟩) ∧ (∀ b o, b < W.heap.size → w1.frozen? ⟨b, o, none⟩ = W.frozen? ⟨b, o, none⟩) :=
  ⟨fun b o h => hb.cell (p := ⟨b, o, none⟩) h, fun b o h => hb.frozen (p := ⟨b, o, none⟩) h⟩
end Go.Law

/-! ### A block that is known whole -/
namespace Go.Law
open Go.RowKit
/-- block g is just the cells cs, of element type t, none of them frozen -/
def Is (w : World) (g : Nat) (t : TypeId) (cs : Array Value) : Prop := w.heap[g]? = some (.cells cs t (0, 0))
section
variable {w w' : World} {g : Nat} {t : TypeId} {cs : Array Value}
theorem Is.lt (h : Is w g t cs) : g < w.heap.size := (Array.getElem?_eq_some_iff.1 h).1
theorem Is.cell (h : Is w g t cs) (i : Nat) : w.cell? ⟨g, i, none⟩ = cs[i]? := cell_of_row w g i cs t (0, 0) h
theorem Is.cell' (h : Is w g t cs) {i : Nat} {v : Value} (hv : cs[i]? = some v) : w.cell? ⟨g, i, none⟩ = some v := (h.cell i).trans hv
theorem Is.frozen (h : Is w g t cs) (i : Nat) : w.frozen? ⟨g, i, none⟩ = false := by
  unfold Is at h
  simp [World.frozen?, h]
theorem Is.new (w : World) (t : TypeId) (cs : Array Value) {g : Nat} (hg : g = w.heap.size) : Is (w.alloc (.cells cs t)) g t cs := by
  subst hg
  exact heap_alloc_new w _
theorem Is.alloc (h : Is w g t cs) (o : Obj) : Is (w.alloc o) g t cs := (Below.heap_alloc w o g h.lt).trans h
theorem Is.drew (h : Is w g t cs) : Is w.drew g t cs := h
theorem Is.drewN (h : Is w g t cs) (n : Nat) : Is (w.drewN n) g t cs := h
theorem Is.below {B : Nat} (h : Is w g t cs) (hb : Below B w w') (hg : g < B) : Is w' g t cs := (hb.block g hg).trans h
theorem Is.set (h : Is w g t cs) (i : Nat) (u : Value) {cs' : Array Value} (hc : cs.setIfInBounds i u = cs') : Is (w.setCell ⟨g, i, none⟩ u) g t cs' := by
  subst hc
  unfold Is at h ⊢
  simp [World.setCell, Array.getElem?_modify, h]
theorem Is.far (h : Is w g t cs) {p : Addr} (hp : g ≠ p.block) (u : Value) : Is (w.setCell p u) g t cs := (Below.heap_setCell w p u g hp).trans h
end
end Go.Law

/-! ### The walk's rules for blocks' numbers: what is below a number is below the next one -/
namespace Go.Law
@[go_sem] theorem lt_more {a b : Nat} (h : a < b) : a < b + 1 := by omega
@[go_sem] theorem lt_more2 {a b : Nat} (h : a < b) : a < b + 1 + 1 := by omega
@[go_sem] theorem lt_more3 {a b : Nat} (h : a < b) : a < b + 1 + 1 + 1 := by omega
@[go_sem] theorem lt_more4 {a b : Nat} (h : a < b) : a < b + 1 + 1 + 1 + 1 := by omega
@[go_sem] theorem lt_more5 {a b : Nat} (h : a < b) : a < b + 1 + 1 + 1 + 1 + 1 := by omega
@[go_sem] theorem lt_more6 {a b : Nat} (h : a < b) : a < b + 1 + 1 + 1 + 1 + 1 + 1 := by omega
@[go_sem] theorem lt_more7 {a b : Nat} (h : a < b) : a < b + 1 + 1 + 1 + 1 + 1 + 1 + 1 := by omega
@[go_sem] theorem lt_more8 {a b : Nat} (h : a < b) : a < b + 1 + 1 + 1 + 1 + 1 + 1 + 1 + 1 := by omega
end Go.Law
/-
  A slice that reads as a list, nil let in. General over programs.
-/
namespace Go.Law
open Go.RowKit Go.ChangeShapes Go.WideShapes Go.ChangeAt

/-- the slice at A holds the cells xs, in a block from lo on, below B -/
def Seq (w : World) (lo B : Nat) (A : Option Addr) (xs : List Value) : Prop :=
  xs ≠ [] → ∃ b off, A = some ⟨b, off, none⟩ ∧ lo ≤ b ∧ b < B ∧ ∀ i u, xs[i]? = some u → w.cell? ⟨b, off + i, none⟩ = some u
section
variable {w w' : World} {lo B lo' B' : Nat} {A : Option Addr} {xs : List Value}
theorem Seq.nil : Seq w lo B A [] := fun h => absurd rfl h
theorem Seq.at {i : Nat} (h : Seq w lo B A xs) (hi : i < xs.length) : ∃ b off, A = some ⟨b, off, none⟩ ∧ lo ≤ b ∧ b < B ∧ w.cell? ⟨b, off + i, none⟩ = some xs[i] := by
  obtain ⟨b, off, e, hl, hb, hc⟩ := h (by intro h0; subst h0; simp at hi)
  exact ⟨b, off, e, hl, hb, hc i _ (List.getElem?_eq_getElem hi)⟩
theorem Seq.str {us : List ByteArray} {i : Nat} (h : Seq w lo B A (us.map .string)) (hi : i < us.length) : ∃ b off, A = some ⟨b, off, none⟩ ∧ lo ≤ b ∧ b < B ∧ w.cell? ⟨b, off + i, none⟩ = some (.string us[i]) := by
  obtain ⟨b, off, e, hl, hb, hc⟩ := h.at (i := i) (by simpa using hi)
  exact ⟨b, off, e, hl, hb, by simpa using hc⟩
theorem Seq.int {k : IntKind} {zs : List Int} {i : Nat} (h : Seq w lo B A (zs.map (.int k))) (hi : i < zs.length) : ∃ b off, A = some ⟨b, off, none⟩ ∧ lo ≤ b ∧ b < B ∧ w.cell? ⟨b, off + i, none⟩ = some (.int k zs[i]) := by
  obtain ⟨b, off, e, hl, hb, hc⟩ := h.at (i := i) (by simpa using hi)
  exact ⟨b, off, e, hl, hb, by simpa using hc⟩
theorem Seq.keep (h : Seq w lo B A xs) (hk : ∀ p : Addr, lo ≤ p.block → p.block < B → w'.cell? p = w.cell? p) : Seq w' lo B A xs := fun hn => by
  obtain ⟨b, off, e, hl, hb, hc⟩ := h hn
  exact ⟨b, off, e, hl, hb, fun i u hu => (hk ⟨b, off + i, none⟩ hl hb).trans (hc i u hu)⟩
theorem Seq.more (h : Seq w lo B A xs) (hB : B ≤ B') : Seq w lo B' A xs := fun hn => by
  obtain ⟨b, off, e, hl, hb, hc⟩ := h hn
  exact ⟨b, off, e, hl, by omega, hc⟩
theorem Seq.from_ (h : Seq w lo B A xs) (hl : lo' ≤ lo) : Seq w lo' B A xs := fun hn => by
  obtain ⟨b, off, e, hl', hb, hc⟩ := h hn
  exact ⟨b, off, e, by omega, hb, hc⟩
theorem Seq.below (h : Seq w lo B A xs) (hb : Below B w w') : Seq w' lo B A xs := h.keep fun _ _ hp => hb.cell hp
theorem Seq.store (h : Seq w lo B A xs) {p : Addr} (hp : p.block < lo ∨ B ≤ p.block) (u : Value) : Seq (w.setCell p u) lo B A xs :=
  h.keep fun q h1 h2 => World.cell?_setCell_other w p q u (fun e => by subst e; omega)
theorem Seq.alloc (h : Seq w lo B A xs) (hB : B ≤ w.heap.size) (o : Obj) : Seq (w.alloc o) lo B A xs := h.keep fun p _ hp => World.cell?_alloc_lt w o p (by omega)
theorem Seq.grown (h : Seq w lo B A xs) {row : Option Nat} (hg : w.grownBy w' row) (hB : B ≤ w.heap.size) (hr : ∀ g, row = some g → g < lo ∨ B ≤ g) : Seq w' lo B A xs :=
  h.keep fun p h1 h2 => World.cell?_of_block (hg.block p.block (by omega) (fun e => by have := hr _ e.symm; omega))
theorem Seq.own {base : Nat} {e : TypeId} {size n c : Nat} (h : w.ownsRow base e size (.slice A n c) n xs) : Seq w base w.heap.size A xs := fun hn => by
  have hl : xs.length = n * size := h.1
  obtain ⟨g, cap, hv, hb, hlt⟩ := h.form (by rcases Nat.eq_zero_or_pos n with h0 | h0; · subst h0; exact absurd (List.eq_nil_of_length_eq_zero (by omega)) hn
                                             · exact h0)
  have hA : A = some ⟨g, 0, none⟩ := by injection hv
  subst hA
  refine ⟨g, 0, rfl, hb, hlt, fun i u hu => ?_⟩
  have := h.cells (g := g) rfl i u hu
  rcases Nat.eq_zero_or_pos i with h0 | h0
  · subst h0; simpa [Addr.add] using this
  · simpa [Addr.add, show i ≠ 0 by omega] using this
theorem Seq.adds (h : Seq w lo B A xs) {a : Addr} (hA : A = some a) : ∀ j u, xs[j]? = some u → w.cell? (a.add j) = some u := fun j u hu => by
  obtain ⟨b, off, e, _, _, hc⟩ := h (by intro h0; subst h0; simp at hu)
  rw [hA] at e
  obtain rfl := Option.some.inj e
  have := hc j u hu
  rcases Nat.eq_zero_or_pos j with h0 | h0
  · subst h0; simpa [Addr.add] using this
  · simpa [Addr.add, show j ≠ 0 by omega] using this
/-- a part of it: 's[i:j]', whatever the address that the model gives an empty one -/
theorem Seq.part (h : Seq w lo B A xs) {A' : Option Addr} {i n : Nat} (hA : ∀ b off, A = some ⟨b, off, none⟩ → i < xs.length → 0 < n → A' = some ⟨b, off + i, none⟩) : Seq w lo B A' ((xs.drop i).take n) := fun hn => by
  have hi : i < xs.length := by
    rcases Nat.lt_or_ge i xs.length with hlt | hge
    · exact hlt
    · exact absurd (by rw [List.drop_of_length_le hge]; simp) hn
  have h0 : 0 < n := by
    rcases Nat.eq_zero_or_pos n with hz | hz
    · subst hz; simp at hn
    · exact hz
  obtain ⟨b, off, e, hl, hb, hc⟩ := h (by intro h0; subst h0; simp at hi)
  refine ⟨b, off + i, hA b off e hi h0, hl, hb, fun j u hu => ?_⟩
  rw [Nat.add_assoc]
  refine hc (i + j) u ?_
  rw [List.getElem?_take] at hu
  split at hu
  · rwa [List.getElem?_drop] at hu
  · cases hu
end

/-- a slice of texts that came in -/
theorem open_texts {H : Type} {enc : TypeId × Value → H} {P : Program} {t e : TypeId} (ht : P.underlying t = some (.slice e)) (he : P.underlying e = some .string) (hc1 : P.cellsOf e = 1)
    {W : World} {base b0 : Nat} {sp : Nat → Bool} {hd : Bool} {v : Value} {d : DataW H} {p : List MemPlace}
    (hv : Value.okWide P W .any b0 t v) (h : DataW.Trod enc P W base sp hd t v d p) :
    ∃ (A : Option Addr) (c : Nat) (us : List ByteArray), v = .slice A us.length c ∧ Seq W 0 W.heap.size A (us.map .string) ∧ us.length ≤ maxLen ∧ us.length ≤ c ∧ ∀ u ∈ us, u.size ≤ maxLen := by
  obtain ⟨a, n, c, rfl⟩ := okWide_slice ht hv
  obtain ⟨fuel, hf⟩ := h
  rcases open_strings ht he hc1 hf with ⟨hcs, _⟩ | ⟨x, l, k, ss, hcs, _, hl, hm, hz, hx, hcell, hwz⟩
  · simp [Value.cells] at hcs
    obtain ⟨rfl, rfl, rfl⟩ := hcs
    exact ⟨none, 0, [], rfl, Seq.nil, by simp, by simp, by simp⟩
  · simp [Value.cells] at hcs
    obtain ⟨rfl, rfl, rfl⟩ := hcs
    have hlen : n ≤ ss.length := by rw [hz]; split <;> omega
    have hl2 : (ss.take n).length = n := by simp; omega
    refine ⟨some x, c, ss.take n, by rw [hl2], fun hne => ?_, by omega, by omega, fun u hu => hwz u (List.mem_of_mem_take hu)⟩
    have hn : 0 < n := by
      rcases Nat.eq_zero_or_pos n with h0 | h0
      · subst h0; simp at hne
      · exact h0
    obtain ⟨b, off, spot⟩ := x
    have hspot : spot = none := by simpa [Addr.add] using World.cell?_spot (hcell 0 (by omega))
    subst hspot
    refine ⟨b, off, rfl, Nat.zero_le _, World.block_lt_of_cell? W ⟨b, off, none⟩ (by simpa [Addr.add] using hcell 0 (by omega)), fun i u hu => ?_⟩
    have hi : i < n := by
      have := (List.getElem?_eq_some_iff.1 hu).1
      simp at this; omega
    have hi' : i < ss.length := by omega
    have e1 : u = .string ss[i] := by
      simp [hi] at hu
      obtain ⟨y, hy, rfl⟩ := hu
      rw [List.getElem?_eq_getElem hi'] at hy
      rw [Option.some.inj hy]
    have := hcell i (by omega)
    rw [e1]
    simp only [List.getD_eq_getElem?_getD, List.getElem?_eq_getElem hi', Option.getD_some] at this
    by_cases h0 : i = 0
    · subst h0
      simpa [Addr.add] using this
    · simpa [Addr.add, h0] using this
/-- a block of eight cells, each written once -/
theorem Is.fill8 {w : World} {g : Nat} {t : TypeId} {cs : Array Value} (h : Is w g t cs) (hs : cs.size = 8) (a0 a1 a2 a3 a4 a5 a6 a7 : Value) :
    Is ((((((((w.setCell ⟨g, 0, none⟩ a0).setCell ⟨g, 1, none⟩ a1).setCell ⟨g, 2, none⟩ a2).setCell ⟨g, 3, none⟩ a3).setCell ⟨g, 4, none⟩ a4).setCell ⟨g, 5, none⟩ a5).setCell ⟨g, 6, none⟩ a6).setCell ⟨g, 7, none⟩ a7) g t #[a0, a1, a2, a3, a4, a5, a6, a7] := by
  refine (((((((h.set 0 a0 rfl).set 1 a1 rfl).set 2 a2 rfl).set 3 a3 rfl).set 4 a4 rfl).set 5 a5 rfl).set 6 a6 rfl).set 7 a7 ?_
  obtain ⟨l⟩ := cs
  match l, hs with
  | [_, _, _, _, _, _, _, _], _ => simp
theorem Is.grown {w w' : World} {g : Nat} {t : TypeId} {cs : Array Value} {row : Option Nat} (h : Is w g t cs) (hg : w.grownBy w' row) (hne : row ≠ some g) : Is w' g t cs := (hg.block g h.lt (fun e => hne e.symm)).trans h
/-- an own row and a block of another element type are two blocks -/
theorem own_ne {w : World} {g : Nat} {t : TypeId} {cs : Array Value} {base : Nat} {e : TypeId} {size n : Nat} {v : Value} {xs : List Value} (h : w.ownsRow base e size v n xs) (hg : Is w g t cs) (hne : e ≠ t) : v.ownBlock ≠ some g := by
  rcases h.2 with ⟨rfl, _⟩ | ⟨k, cap, cur, rfl, _, hh, _⟩
  · simp [Value.ownBlock]
  · intro he
    have : k = g := by simpa [Value.ownBlock] using he
    subst this
    unfold Is at hg
    rw [hh] at hg
    simp at hg
    exact hne hg.2
/-- the cells of 'append(l, x)': x lies in a new block of one cell -/
theorem new_one (w : World) (x : Value) (t : TypeId) : ∀ (j : Nat) (u : Value), [x][j]? = some u → (w.alloc (.cells #[x] t)).cell? ((⟨w.heap.size, 0, none⟩ : Addr).add j) = some u := by
  intro j u hj
  match j, hj with
  | 0, hj => simp at hj; subst hj; simp [Addr.add]
theorem one_int (k : IntKind) (z : Int) : ∀ u ∈ [Value.int k z], u.oneCell' = true := by
  intro u hu; simp at hu; subst hu; rfl
theorem beq_cast (a b : Nat) : ((a : Int) == (b : Int)) = (a == b) := by rw [Bool.eq_iff_iff]; simp; omega
theorem below_drewN {B : Nat} {a w : World} (h : Below B a w) (n : Nat) : Below B a (w.drewN n) := ⟨h.os, h.tape, h.output, h.size, h.block⟩
/-- a world out of which some orders were drawn -/
def Drawn (w wr : World) : Prop := ∃ d, wr = w.drewN d
section
variable {w wr : World}
theorem Drawn.refl (w : World) : Drawn w w := ⟨0, rfl⟩
theorem Drawn.drewN (h : Drawn w wr) (n : Nat) : Drawn w (wr.drewN n) := by
  obtain ⟨d, rfl⟩ := h
  exact ⟨d + n, World.drewN_drewN _ _ _⟩
theorem Drawn.drew (h : Drawn w wr) : Drawn w wr.drew := h.drewN 1
theorem Drawn.cell (h : Drawn w wr) (p : Addr) : wr.cell? p = w.cell? p := by obtain ⟨d, rfl⟩ := h; rfl
theorem Drawn.size (h : Drawn w wr) : wr.heap.size = w.heap.size := by obtain ⟨d, rfl⟩ := h; rfl
theorem Drawn.below {B : Nat} {a : World} (h : Drawn w wr) (hb : Below B a w) : Below B a wr := by obtain ⟨d, rfl⟩ := h; exact below_drewN hb _
theorem Drawn.seq {lo B : Nat} {A : Option Addr} {xs : List Value} (h : Drawn w wr) (hs : Seq w lo B A xs) : Seq wr lo B A xs := hs.keep fun p _ _ => h.cell p
end
/-- a callee that only computes, in a region that draws its order -/
theorem quiet {P : Program} {f : FuncId} {args : Array Value} {w : World} {n : Nat} {v : Value}
    (h : Calls P f args (w.drewN n) fun e w' => e = .returned v ∧ w.drewN n = w') : Calls P f args (w.drewN n) fun e w'' => e = .returned v ∧ ∃ m, w'' = w.drewN m :=
  h.mono fun _ _ ⟨he, hm⟩ => ⟨he, n, hm.symm⟩

/-! ### append from whatever slice -/
section
variable {P : Program} (w : World) (base : Nat) (t : TypeId) {e : TypeId} {i : TypeInfo} {z : Value} {size bytes : Nat}
/-- what is known of an element type -/
structure Elem (P : Program) (t e : TypeId) (i : TypeInfo) (z : Value) (size bytes : Nat) : Prop where
  ut : P.underlying t = some (.slice e)
  info : P.info? e = some i
  zero : i.zero = some z
  sz : i.size = size
  by_ : i.bytes = bytes
  cells : z.cells.size = size
  pos : 0 < size
theorem Elem.of {P : Program} {t e : TypeId} {z : Value} {size bytes : Nat} (ut : P.underlying t = some (.slice e)) (h : (P.info? e).map (fun i => (i.zero, i.size, i.bytes)) = some (some z, size, bytes)) (hc : z.cells.size = size) (hp : 0 < size) : ∃ i, Elem P t e i z size bytes := by
  obtain ⟨i, h1, h2, h3, h4⟩ := info_parts h
  exact ⟨i, ut, h1, h2, h3, h4, hc, hp⟩
theorem run_append_seq (E : Elem P t e i z size bytes) (ty : TypeId) (v : Value) (n : Nat) (xs : List Value) (hown : w.ownsRow base e size v n xs)
    (lo B : Nat) (A : Option Addr) (m c : Nat) (news : List Value) (hl : news.length = m * size) (hr : Seq w lo B A news) (h1 : ∀ u ∈ news, u.oneCell' = true)
    (h63 : n + m ≤ maxLen) (hbytes : (n + m) * bytes ≤ 140737488355328) (hbase : base ≤ w.heap.size) :
    ∃ v' w', (Builtin.append_ #[t, t] ty #[v, .slice A m c]).run P w = .ok v' w' ∧ w'.ownsRow base e size v' (n + m) (xs ++ news) ∧ w.grownBy w' v.ownBlock := by
  match hA : A with
  | some ad =>
    obtain ⟨v', w', hrun, h2, h3, _⟩ := run_append_own_at (P := P) w base t ty e i z size bytes E.ut E.info E.zero E.sz E.by_ E.cells E.pos v n xs hown ad m c news hl (hr.adds rfl) h1 h63 hbytes hbase
    exact ⟨v', w', hrun, h2, h3⟩
  | none =>
    have hn : news = [] := by
      rcases news with _ | ⟨u, us⟩
      · rfl
      · obtain ⟨_, _, h, _⟩ := hr (by simp)
        cases h
    subst hn
    have hm : m = 0 := by
      rcases Nat.eq_zero_or_pos m with h0 | h0
      · exact h0
      · have := Nat.mul_pos h0 E.pos
        simp at hl
        omega
    subst hm
    refine ⟨v, w, ?_, by simpa using hown, World.grownBy.refl w _⟩
    rcases hown.2 with ⟨rfl, rfl⟩ | ⟨g, cap, cur, rfl, _, _, hnc, _⟩
    · simp [Builtin.append_, run_underlying E.ut, sizeOf, typeInfo, E.info, Builtin.lenOf, Builtin.firstCells]
    · simp [Builtin.append_, run_underlying E.ut, sizeOf, typeInfo, E.info, Builtin.lenOf, Builtin.firstCells, hnc, storeCells]
theorem wp_append_seq {o : Oper} {a : Act} {K : Act → World → Prop} {Q : Exit → Act → World → Prop} (s x : Operand)
    (ho : o.op = .call { callee := .builtin .append, args := #[s, x], argTypes := #[t, t] }) (E : Elem P t e i z size bytes)
    (v : Value) (n : Nat) (xs : List Value) (hs : a.eval s = v) (hown : w.ownsRow base e size v n xs)
    (lo B : Nat) (A : Option Addr) (m c : Nat) (news : List Value) (hx : a.eval x = .slice A m c) (hl : news.length = m * size) (hr : Seq w lo B A news) (h1 : ∀ u ∈ news, u.oneCell' = true)
    (h63 : n + m ≤ maxLen) (hbytes : (n + m) * bytes ≤ 140737488355328) (hbase : base ≤ w.heap.size)
    (h : ∀ v' w', w'.ownsRow base e size v' (n + m) (xs ++ news) → w.grownBy w' v.ownBlock → K (a.put o.dst v') w') : o.wp P a w K Q := by
  obtain ⟨v', w', hrun, h2, h3⟩ := run_append_seq w base t E o.type v n xs hown lo B A m c news hl hr h1 h63 hbytes hbase
  unfold Oper.wp execOp
  simp only [ho, resolve, invoke, builtin, Sem.run_bind, Sem.run_pure, Result.andThen_ok, List.map_toArray, List.map_cons, List.map_nil, hs, hx, hrun]
  exact h v' w' h2 h3
theorem wpList_append_seq {ops : Array Oper} {rest : List Oper} {o : Oper} {a : Act} {Q : Exit → Act → World → Prop} (hgd : o.guard = none) (s x : Operand)
    (ho : o.op = .call { callee := .builtin .append, args := #[s, x], argTypes := #[t, t] }) (E : Elem P t e i z size bytes)
    (v : Value) (n : Nat) (xs : List Value) (hs : a.eval s = v) (hown : w.ownsRow base e size v n xs)
    (lo B : Nat) (A : Option Addr) (m c : Nat) (news : List Value) (hx : a.eval x = .slice A m c) (hl : news.length = m * size) (hr : Seq w lo B A news) (h1 : ∀ u ∈ news, u.oneCell' = true)
    (h63 : n + m ≤ maxLen) (hbytes : (n + m) * bytes ≤ 140737488355328) (hbase : base ≤ w.heap.size)
    (h : ∀ v' w', w'.ownsRow base e size v' (n + m) (xs ++ news) → w.grownBy w' v.ownBlock → wpList P ops Q rest (a.put o.dst v') w') : wpList P ops Q (o :: rest) a w :=
  wpList_plain hgd fun _ hK => wp_append_seq w base t s x ho E v n xs hs hown lo B A m c news hx hl hr h1 h63 hbytes hbase fun v' w' h2 h3 => hK _ _ (h v' w' h2 h3)
theorem step_append_seq {ops : Array Oper} {o : Oper} {a : Act} {K : Act → World → Prop} {Q : Exit → Act → World → Prop} {X : Prop} (hgd : o.guard = none) (s x : Operand)
    (ho : o.op = .call { callee := .builtin .append, args := #[s, x], argTypes := #[t, t] }) (E : Elem P t e i z size bytes)
    (v : Value) (n : Nat) (xs : List Value) (hs : a.eval s = v) (hown : w.ownsRow base e size v n xs)
    (lo B : Nat) (A : Option Addr) (m c : Nat) (news : List Value) (hx : a.eval x = .slice A m c) (hl : news.length = m * size) (hr : Seq w lo B A news) (h1 : ∀ u ∈ news, u.oneCell' = true)
    (h63 : n + m ≤ maxLen) (hbytes : (n + m) * bytes ≤ 140737488355328) (hbase : base ≤ w.heap.size)
    (h : ∀ v' w', w'.ownsRow base e size v' (n + m) (xs ++ news) → w.grownBy w' v.ownBlock → K (a.put o.dst v') w') :
    if Region.wanted o (yielded ops a.tmps) = true then Oper.wp P o a w K Q else X := by
  rw [if_pos (by simp [Region.wanted, hgd])]
  exact wp_append_seq w base t s x ho E v n xs hs hown lo B A m c news hx hl hr h1 h63 hbytes hbase h
end
theorem str_one (us : List ByteArray) : ∀ u ∈ us.map Value.string, u.oneCell' = true := by
  intro u hu
  obtain ⟨_, _, rfl⟩ := List.mem_map.1 hu
  rfl
theorem own_shape {w : World} {base : Nat} {e : TypeId} {size n : Nat} {v : Value} {xs : List Value} (h : w.ownsRow base e size v n xs) : ∃ A c, v = .slice A n c ∧ n ≤ c := by
  rcases h.2 with ⟨rfl, rfl⟩ | ⟨g, cap, cur, rfl, _, _, hn, _⟩
  · exact ⟨none, 0, rfl, Nat.le_refl _⟩
  · exact ⟨_, _, rfl, hn⟩
theorem own_below {w w' : World} {base : Nat} {e : TypeId} {size n : Nat} {v : Value} {xs : List Value} (h : w.ownsRow base e size v n xs) (hb : Below w.heap.size w w') : w'.ownsRow base e size v n xs := by
  refine ⟨h.1, ?_⟩
  rcases h.2 with hn | ⟨g, cap, cur, rfl, hg, hgg, rest⟩
  · exact .inl hn
  · exact .inr ⟨g, cap, cur, rfl, hg, (hb.block g (Array.getElem?_eq_some_iff.1 hgg).1).trans hgg, rest⟩
theorem own_drewN {w : World} {base : Nat} {e : TypeId} {size n : Nat} {v : Value} {xs : List Value} (h : w.ownsRow base e size v n xs) (k : Nat) : (w.drewN k).ownsRow base e size v n xs := h
end Go.Law
/-
  Lists of keys and values that rise, and a tree in memory whose nodes never turn: a node is a block of five cells (key, value, left, right, how many). General over programs.
-/
namespace Go.Law
open Go.RowKit

/-! ### Lists of pairs that rise -/
/-- a strict order of which any two are less, the same, or more -/
structure Tri {κ : Type} (lt : κ → κ → Prop) : Prop where
  irr : ∀ a, ¬ lt a a
  tr : ∀ {a b c}, lt a b → lt b c → lt a c
  tri : ∀ a b, lt a b ∨ a = b ∨ lt b a
theorem Tri.asym {κ : Type} {lt : κ → κ → Prop} (h : Tri lt) {a b : κ} (hab : lt a b) : ¬ lt b a := fun hba => h.irr a (h.tr hab hba)
theorem Tri.ne {κ : Type} {lt : κ → κ → Prop} (h : Tri lt) {a b : κ} (hab : lt a b) : a ≠ b := fun e => h.irr b (e ▸ hab)
section
variable {κ ν : Type} (lt : κ → κ → Prop)
def Rises (xs : List (κ × ν)) : Prop := xs.Pairwise fun a b => lt a.1 b.1
variable {lt} {xs ys : List (κ × ν)} {a : κ} {b : ν}
theorem Rises.left (h : Rises lt (xs ++ (a, b) :: ys)) : Rises lt xs := (List.pairwise_append.1 h).1
theorem Rises.right (h : Rises lt (xs ++ (a, b) :: ys)) : Rises lt ys := (List.pairwise_cons.1 (List.pairwise_append.1 h).2.1).2
theorem Rises.less (h : Rises lt (xs ++ (a, b) :: ys)) : ∀ p ∈ xs, lt p.1 a := fun p hp => (List.pairwise_append.1 h).2.2 p hp (a, b) (by simp)
theorem Rises.more (h : Rises lt (xs ++ (a, b) :: ys)) : ∀ p ∈ ys, lt a p.1 := fun p hp => (List.pairwise_cons.1 (List.pairwise_append.1 h).2.1).1 p hp
theorem Rises.mk (hx : Rises lt xs) (hy : Rises lt ys) (h1 : ∀ p ∈ xs, lt p.1 a) (h2 : ∀ p ∈ ys, lt a p.1) (ht : Tri lt) : Rises lt (xs ++ (a, b) :: ys) := by
  refine List.pairwise_append.2 ⟨hx, List.pairwise_cons.2 ⟨fun p hp => h2 p hp, hy⟩, ?_⟩
  intro p hp q hq
  rcases List.mem_cons.1 hq with rfl | hq
  · exact h1 p hp
  · exact ht.tr (h1 p hp) (h2 q hq)
theorem Rises.tail {p : κ × ν} (h : Rises lt (p :: xs)) : Rises lt xs := (List.pairwise_cons.1 h).2
theorem Rises.head {p : κ × ν} (h : Rises lt (p :: xs)) : ∀ q ∈ xs, lt p.1 q.1 := (List.pairwise_cons.1 h).1
theorem Rises.nil : Rises lt ([] : List (κ × ν)) := List.Pairwise.nil
end
section
variable {κ ν : Type} (lt : κ → κ → Prop) [DecidableRel lt] [DecidableEq κ]
/-- with a key's value -/
def putK (k : κ) (v : ν) : List (κ × ν) → List (κ × ν)
  | [] => [(k, v)]
  | p :: r => if lt k p.1 then (k, v) :: p :: r else if lt p.1 k then p :: putK k v r else (k, v) :: r
omit [DecidableEq κ] in
theorem putK_mem {k : κ} {v : ν} : ∀ {xs : List (κ × ν)} {q : κ × ν}, q ∈ putK lt k v xs → q = (k, v) ∨ q ∈ xs
  | [], q, h => by simp [putK] at h; exact .inl h
  | p :: r, q, h => by
    unfold putK at h
    split at h
    · rcases List.mem_cons.1 h with h | h
      · exact .inl h
      · exact .inr h
    · split at h
      · rcases List.mem_cons.1 h with h | h
        · exact .inr (by simp [h])
        · rcases putK_mem h with h | h
          · exact .inl h
          · exact .inr (by simp [h])
      · rcases List.mem_cons.1 h with h | h
        · exact .inl h
        · exact .inr (by simp [h])
omit [DecidableEq κ] in
theorem putK_rises (ht : Tri lt) {k : κ} {v : ν} : ∀ {xs : List (κ × ν)}, Rises lt xs → Rises lt (putK lt k v xs)
  | [], _ => List.pairwise_singleton _ _
  | p :: r, h => by
    unfold putK
    split
    · rename_i h1
      refine List.pairwise_cons.2 ⟨fun q hq => ?_, h⟩
      rcases List.mem_cons.1 hq with rfl | hq
      · exact h1
      · exact ht.tr h1 (h.head q hq)
    · rename_i h1
      split
      · rename_i h2
        refine List.pairwise_cons.2 ⟨fun q hq => ?_, putK_rises ht h.tail⟩
        rcases putK_mem lt hq with rfl | hq
        · exact h2
        · exact h.head q hq
      · rename_i h2
        have e : k = p.1 := by rcases ht.tri k p.1 with e | e | e; exact absurd e h1; exact e; exact absurd e h2
        exact List.pairwise_cons.2 ⟨fun q hq => by rw [e]; exact h.head q hq, h.tail⟩
omit [DecidableEq κ] in
theorem putK_length (k : κ) (v : ν) : ∀ xs : List (κ × ν), (putK lt k v xs).length ≤ xs.length + 1 ∧ xs.length ≤ (putK lt k v xs).length
  | [] => by simp [putK]
  | p :: r => by
    have := putK_length k v r
    unfold putK
    split
    · simp
    · split <;> simp <;> omega
omit [DecidableEq κ] in
theorem putK_left {k a : κ} {v b : ν} {ys : List (κ × ν)} (h : lt k a) : ∀ xs : List (κ × ν), putK lt k v (xs ++ (a, b) :: ys) = putK lt k v xs ++ (a, b) :: ys
  | [] => by simp [putK, h]
  | p :: r => by
    have ih := putK_left h (v := v) (b := b) (ys := ys) r
    simp only [List.cons_append, putK]
    split
    · rfl
    · split
      · rw [ih]; rfl
      · rfl
omit [DecidableEq κ] in
theorem putK_right (ht : Tri lt) {k a : κ} {v b : ν} {ys : List (κ × ν)} (h : lt a k) : ∀ xs : List (κ × ν), Rises lt (xs ++ (a, b) :: ys) → putK lt k v (xs ++ (a, b) :: ys) = xs ++ (a, b) :: putK lt k v ys
  | [], _ => by simp [putK, h, ht.asym h]
  | p :: r, hr => by
    have ih := putK_right ht h (v := v) (b := b) (ys := ys) r hr.tail
    have h1 : lt p.1 k := ht.tr (hr.less p (by simp)) h
    simp only [List.cons_append, putK, if_neg (ht.asym h1), if_pos h1, ih]
omit [DecidableEq κ] in
theorem putK_same (ht : Tri lt) {a : κ} {v b : ν} {ys : List (κ × ν)} : ∀ xs : List (κ × ν), Rises lt (xs ++ (a, b) :: ys) → putK lt a v (xs ++ (a, b) :: ys) = xs ++ (a, v) :: ys
  | [], _ => by simp [putK, ht.irr]
  | p :: r, hr => by
    have ih := putK_same ht (v := v) (b := b) (ys := ys) r hr.tail
    have h1 : lt p.1 a := hr.less p (by simp)
    simp only [List.cons_append, putK, if_neg (ht.asym h1), if_pos h1, ih]

/-- without a key -/
def outK (k : κ) (xs : List (κ × ν)) : List (κ × ν) := xs.filter fun p => decide (p.1 ≠ k)
theorem outK_none {k : κ} {xs : List (κ × ν)} (h : ∀ p ∈ xs, p.1 ≠ k) : outK k xs = xs := List.filter_eq_self.2 fun p hp => by simpa using h p hp
theorem outK_app (k : κ) (xs ys : List (κ × ν)) : outK k (xs ++ ys) = outK k xs ++ outK k ys := List.filter_append ..
omit [DecidableRel lt] in
theorem outK_rises {k : κ} {xs : List (κ × ν)} (h : Rises lt xs) : Rises lt (outK k xs) := List.Pairwise.sublist (List.filter_sublist) h
theorem outK_length (k : κ) (xs : List (κ × ν)) : (outK k xs).length ≤ xs.length := List.length_filter_le ..
omit [DecidableRel lt] in
theorem outK_left (ht : Tri lt) {k a : κ} {b : ν} {xs ys : List (κ × ν)} (h : lt k a) (hr : Rises lt (xs ++ (a, b) :: ys)) : outK k (xs ++ (a, b) :: ys) = outK k xs ++ (a, b) :: ys := by
  rw [outK_app]
  congr 1
  refine outK_none fun p hp => ?_
  rcases List.mem_cons.1 hp with rfl | hp
  · exact (ht.ne h).symm
  · exact (ht.ne (ht.tr h (hr.more p hp))).symm
omit [DecidableRel lt] in
theorem outK_right (ht : Tri lt) {k a : κ} {b : ν} {xs ys : List (κ × ν)} (h : lt a k) (hr : Rises lt (xs ++ (a, b) :: ys)) : outK k (xs ++ (a, b) :: ys) = xs ++ (a, b) :: outK k ys := by
  have e : outK k ((a, b) :: ys) = (a, b) :: outK k ys := List.filter_cons_of_pos (by simpa using ht.ne h)
  rw [outK_app, e]
  congr 1
  exact outK_none fun p hp => ht.ne (ht.tr (hr.less p hp) h)
omit [DecidableRel lt] in
theorem outK_same (ht : Tri lt) {a : κ} {b : ν} {xs ys : List (κ × ν)} (hr : Rises lt (xs ++ (a, b) :: ys)) : outK a (xs ++ (a, b) :: ys) = xs ++ ys := by
  have e : outK a ((a, b) :: ys) = outK a ys := List.filter_cons_of_neg (by simp)
  rw [outK_app, e, outK_none fun p hp => ht.ne (hr.less p hp), outK_none fun p hp => (ht.ne (hr.more p hp)).symm]

/-- a key's value -/
def getK (k : κ) : List (κ × ν) → Option ν
  | [] => none
  | p :: r => if p.1 = k then some p.2 else getK k r
theorem getK_none {k : κ} : ∀ {xs : List (κ × ν)}, (∀ p ∈ xs, p.1 ≠ k) → getK k xs = none
  | [], _ => rfl
  | p :: r, h => by rw [getK, if_neg (h p (by simp)), getK_none fun q hq => h q (by simp [hq])]
theorem getK_app {k : κ} {ys : List (κ × ν)} : ∀ {xs : List (κ × ν)}, (∀ p ∈ xs, p.1 ≠ k) → getK k (xs ++ ys) = getK k ys
  | [], _ => rfl
  | p :: r, h => by rw [List.cons_append, getK, if_neg (h p (by simp)), getK_app fun q hq => h q (by simp [hq])]
omit [DecidableRel lt] in
theorem getK_left (ht : Tri lt) {k a : κ} {b : ν} {ys : List (κ × ν)} (h : lt k a) : ∀ {xs : List (κ × ν)}, Rises lt (xs ++ (a, b) :: ys) → getK k (xs ++ (a, b) :: ys) = getK k xs
  | [], hr => getK_none fun p hp => by
    rcases List.mem_cons.1 hp with rfl | hp
    · exact (ht.ne h).symm
    · exact (ht.ne (ht.tr h (hr.more p hp))).symm
  | p :: r, hr => by rw [List.cons_append, getK, getK, getK_left ht h hr.tail]
omit [DecidableRel lt] in
theorem getK_right (ht : Tri lt) {k a : κ} {b : ν} {xs ys : List (κ × ν)} (h : lt a k) (hr : Rises lt (xs ++ (a, b) :: ys)) : getK k (xs ++ (a, b) :: ys) = getK k ys := by
  rw [getK_app fun p hp => ht.ne (ht.tr (hr.less p hp) h), getK, if_neg (ht.ne h)]
omit [DecidableRel lt] in
theorem getK_same (ht : Tri lt) {a : κ} {b : ν} {xs ys : List (κ × ν)} (hr : Rises lt (xs ++ (a, b) :: ys)) : getK a (xs ++ (a, b) :: ys) = some b := by
  rw [getK_app fun p hp => ht.ne (hr.less p hp), getK, if_pos rfl]
end

/-! ### A tree in memory -/
/-- at p there lies, in blocks below B, a tree that holds these pairs, from left to right -/
inductive Tree (t : TypeId) {κ ν : Type} (ek : κ → Value) (ev : ν → Value) (w : World) (B : Nat) : Option Addr → List (κ × ν) → Prop
  | nil : Tree t ek ev w B none []
  | node {b : Nat} {l r : Option Addr} {xs ys : List (κ × ν)} {k : κ} {v : ν} : b < B → Is w b t #[ek k, ev v, .pointer l, .pointer r, .int .i64 ((xs ++ (k, v) :: ys).length : Int)] → Tree t ek ev w B l xs → Tree t ek ev w B r ys →
      Tree t ek ev w B (some ⟨b, 0, none⟩) (xs ++ (k, v) :: ys)
section
variable {t : TypeId} {κ ν : Type} {ek : κ → Value} {ev : ν → Value} {w w' : World} {B B' : Nat} {p : Option Addr} {xs : List (κ × ν)}
theorem Tree.under (h : Tree t ek ev w B p xs) (hb : Below B w w') : Tree t ek ev w' B p xs := by
  induction h with
  | nil => exact .nil
  | node hB hi _ _ ihl ihr => exact .node hB (hi.below hb hB) ihl ihr
theorem Tree.wide (h : Tree t ek ev w B p xs) (hB : B ≤ B') : Tree t ek ev w B' p xs := by
  induction h with
  | nil => exact .nil
  | node hb hi _ _ ihl ihr => exact .node (by omega) hi ihl ihr
theorem Tree.of_nil (h : Tree t ek ev w B none xs) : xs = [] := by cases h; rfl
theorem Tree.is_nil (h : Tree t ek ev w B p []) : p = none := by
  generalize hx : ([] : List (κ × ν)) = zs at h
  cases h with
  | nil => rfl
  | node _ _ _ _ => simp at hx
/-- what a node says -/
theorem Tree.of_some {a : Addr} (h : Tree t ek ev w B (some a) xs) : ∃ (b : Nat) (l r : Option Addr) (ls rs : List (κ × ν)) (k : κ) (v : ν), a = ⟨b, 0, none⟩ ∧ xs = ls ++ (k, v) :: rs ∧ b < B ∧
    Is w b t #[ek k, ev v, .pointer l, .pointer r, .int .i64 ((ls ++ (k, v) :: rs).length : Int)] ∧ Tree t ek ev w B l ls ∧ Tree t ek ev w B r rs := by
  cases h with
  | node hb hi hl hr => exact ⟨_, _, _, _, _, _, _, rfl, rfl, hb, hi, hl, hr⟩
/-- a tree that holds something is a node -/
theorem Tree.full (h : Tree t ek ev w B p xs) (hx : 0 < xs.length) : ∃ (b : Nat) (l r : Option Addr) (ls rs : List (κ × ν)) (k : κ) (v : ν), p = some ⟨b, 0, none⟩ ∧ xs = ls ++ (k, v) :: rs ∧ b < B ∧
    Is w b t #[ek k, ev v, .pointer l, .pointer r, .int .i64 ((ls ++ (k, v) :: rs).length : Int)] ∧ Tree t ek ev w B l ls ∧ Tree t ek ev w B r rs := by
  cases h with
  | nil => simp at hx
  | node hb hi hl hr => exact ⟨_, _, _, _, _, _, _, rfl, rfl, hb, hi, hl, hr⟩
/-- how many keys a tree at a value says it holds -/
def sizeAt (w : World) : Value → Nat
  | .pointer (some a) => match w.cell? ⟨a.block, 4, none⟩ with
    | some (.int _ n) => n.toNat
    | _ => 0
  | _ => 0
theorem Tree.size (h : Tree t ek ev w B p xs) : sizeAt w (.pointer p) = xs.length := by
  cases h with
  | nil => rfl
  | node hb hi hl hr =>
    have := hi.cell 4
    simp only [sizeAt]
    rw [this]
    simp
    omega
/-- a new node -/
theorem Tree.new {l r : Option Addr} {ls rs : List (κ × ν)} {k : κ} {v : ν} {g : Nat} {n : Int} (hl : Tree t ek ev w w.heap.size l ls) (hr : Tree t ek ev w w.heap.size r rs) (hg : g = w.heap.size) (hn : n = ((ls ++ (k, v) :: rs).length : Int)) :
    Tree t ek ev (w.alloc (.cells #[ek k, ev v, .pointer l, .pointer r, .int .i64 n] t)) (w.alloc (.cells #[ek k, ev v, .pointer l, .pointer r, .int .i64 n] t)).heap.size (some ⟨g, 0, none⟩) (ls ++ (k, v) :: rs) := by
  subst hg hn
  have hb := (Below.refl w.heap.size w).alloc (Nat.le_refl _) (.cells #[ek k, ev v, .pointer l, .pointer r, .int .i64 ((ls ++ (k, v) :: rs).length : Int)] t)
  exact .node (by simp) (Is.new _ _ _ rfl) ((hl.under hb).wide (by simp)) ((hr.under hb).wide (by simp))
/-- all blocks of type t lie as they lay -/
structure Keeps (t : TypeId) (w w' : World) : Prop where
  size : w.heap.size ≤ w'.heap.size
  is : ∀ {b cs}, Is w b t cs → Is w' b t cs
theorem Keeps.refl (t : TypeId) (w : World) : Keeps t w w := ⟨Nat.le_refl _, fun h => h⟩
theorem Keeps.trans {w'' : World} (h : Keeps t w w') (h' : Keeps t w' w'') : Keeps t w w'' := ⟨Nat.le_trans h.size h'.size, fun hi => h'.is (h.is hi)⟩
theorem Keeps.drewN (t : TypeId) (w : World) (n : Nat) : Keeps t w (w.drewN n) := ⟨Nat.le_refl _, fun h => h⟩
theorem Keeps.of_below (hb : Below w.heap.size w w') : Keeps t w w' := ⟨hb.size, fun h => h.below hb h.lt⟩
theorem Is.type_ne {t t' : TypeId} {g b : Nat} {cs cs' : Array Value} (hi : Is w b t cs) (hg : Is w g t' cs') (ht : t ≠ t') : b ≠ g := by
  intro e
  subst e
  unfold Is at hi hg
  rw [hi] at hg
  injection hg with hg
  injection hg with _ h2
  exact ht h2
theorem Keeps.store {g i : Nat} {t' : TypeId} {cs : Array Value} (hg : Is w g t' cs) (ht : t ≠ t') (u : Value) : Keeps t w (w.setCell ⟨g, i, none⟩ u) :=
  ⟨by simp, fun hi => hi.far (p := ⟨g, i, none⟩) (hi.type_ne hg ht) u⟩
theorem Keeps.alloc {t : TypeId} {w : World} (o : Obj) : Keeps t w (w.alloc o) := Keeps.of_below ((Below.refl _ w).alloc (Nat.le_refl _) o)
/-- an append to a row of another type -/
theorem Keeps.grown {t e : TypeId} {w w' : World} {base size n : Nat} {v : Value} {xs : List Value} (h : w.ownsRow base e size v n xs) (hg : w.grownBy w' v.ownBlock) (ht : e ≠ t) : Keeps t w w' :=
  ⟨hg.size, fun hi => (hg.block _ hi.lt fun hk => own_ne h hi ht hk.symm).trans hi⟩
theorem Tree.keeps (h : Tree t ek ev w B p xs) (hb : Keeps t w w') : Tree t ek ev w' B p xs := by
  induction h with
  | nil => exact .nil
  | node hB hi _ _ ihl ihr => exact .node hB (hb.is hi) ihl ihr
/-- a store into a block of another type leaves a tree as it was -/
theorem Tree.far (h : Tree t ek ev w B p xs) {g i : Nat} {t' : TypeId} {cs : Array Value} (hg : Is w g t' cs) (ht : t ≠ t') (u : Value) : Tree t ek ev (w.setCell ⟨g, i, none⟩ u) B p xs := by
  induction h with
  | nil => exact .nil
  | node hB hi _ _ ihl ihr =>
    refine .node hB (hi.far (p := ⟨g, i, none⟩) ?_ u) ihl ihr
    intro e
    subst e
    unfold Is at hi hg
    rw [hi] at hg
    injection hg with hg
    injection hg with _ h2
    exact ht h2
theorem Tree.drewN (h : Tree t ek ev w B p xs) (n : Nat) : Tree t ek ev (w.drewN n) B p xs := by
  induction h with
  | nil => exact .nil
  | node hB hi _ _ ihl ihr => exact .node hB (hi.drewN n) ihl ihr
end
end Go.Law
