/-
  Steps of a drawn region, laid by hand, in few words. General over programs.
-/
import Derived.OrdersHeld
import Derived.Deep.RegionHeld
import Derived.StillTailTactics
import Derived.WalkKit
import Derived.ProofKit
import Derived.OpenShut
import Derived.ChangeOld
import Derived.Below
import Derived.Deep.Draws
import Derived.Laws.Rows
import Derived.Laws.OwnMore
import Derived.SliceStrings
import Derived.Deep.AppendLies
import Derived.OwnWalk
import Derived.Maps.AppendAt
import Derived.RegionTactic
namespace Go.Law
section
variable {P : Program} {md : Region.Mode} {ops : Array Oper} {Q : Exit → Act → World → Prop} {S : World → Prop} {v : Value} {fuel : Nat} {listed : Array Bool} {a : Act} {w : World}
theorem tk (i : Nat) (oi : Oper) (hS : S w) (hy : ∀ w, S w → (execOp a.eval oi).run P w = .ok (.value v) w) (h : wpAnyH P md ops Q S fuel (listed.setIfInBounds i true) (a.put oi.dst v) w)
  (hi : ops[i]? = some oi := by rfl) (hs : Region.noSelect ops = true := by kernel_rfl) (hf : Region.free md ops listed i = true := by kernel_rfl) (hr : (Region.ready md ops listed).contains i = true := by kernel_rfl)
  (hQ : ∀ c a w, Q (.panic c) (a.put oi.dst v) w → Q (.panic c) a w := by exact fun _ _ _ h => h) (hw : Region.wanted oi (yielded ops a.tmps) = true := by rfl) : wpAnyH P md ops Q S (fuel + 1) listed a w :=
 wpAnyH_take hi hs hf hr hQ (Or.inl ⟨hw, hy⟩) hS h
theorem sk (i : Nat) (oi : Oper) (hS : S w) (h : wpAnyH P md ops Q S fuel (listed.setIfInBounds i true) (a.put oi.dst undef) w)
  (hi : ops[i]? = some oi := by rfl) (hs : Region.noSelect ops = true := by kernel_rfl) (hf : Region.free md ops listed i = true := by kernel_rfl) (hr : (Region.ready md ops listed).contains i = true := by kernel_rfl)
  (hQ : ∀ c a w, Q (.panic c) (a.put oi.dst undef) w → Q (.panic c) a w := by exact fun _ _ _ h => h) (hw : Region.wanted oi (yielded ops a.tmps) = false := by rfl) : wpAnyH P md ops Q S (fuel + 1) listed a w :=
 wpAnyH_take hi hs hf hr hQ (Or.inr ⟨hw, rfl⟩) hS h
end
theorem pz : (∀ (a : Act) (d : Nat) (v : Value), a.put (some d) v = { a with tmps := a.tmps.setIfInBounds d v }) ∧ (∀ (a : Act) (v : Value), a.put none v = a) ∧ (∀ (α : Type) (l : List α) (i : Nat) (x : α), l.toArray.setIfInBounds i x = (l.set i x).toArray) ∧
  (∀ (α : Type) (a b : α) (l : List α), (a :: l).set 0 b = b :: l) ∧ (∀ (α : Type) (a b : α) (l : List α) (n : Nat), (a :: l).set (n + 1) b = a :: l.set n b) :=
 ⟨fun _ _ _ => rfl, fun _ _ => rfl, fun _ l i x => List.setIfInBounds_toArray l i x, fun _ _ _ _ => rfl, fun _ _ _ _ _ => rfl⟩
end Go.Law
namespace Go.Law
open Go.ChangeShapes Go.WideShapes Go.ChangeAt Go.RowKit

theorem trodAll_below {H : Type} {enc : TypeId × Value → H} {P : Program} (hl : laidOutB P = true) {W W' : World} (hb : Below W.heap.size W W') :
  ∀ (ts : List TypeId) (vs : List Value) (ds : List (DataW H)) (ps : List MemPlace), (ts.all fun t => P.readableRec t && decide (t < P.types.size)) = true →
    DataW.TrodAll enc P W 0 (fun _ => true) true ts vs ds ps → (∀ x ∈ ps, x.block < W.heap.size) →
    DataW.TrodAll enc P W' 0 (fun b => decide (b < W.heap.size)) true ts vs ds ps
 | [], vs, ds, ps, _, h, _ => by
   obtain ⟨rfl, rfl, rfl⟩ := trodAll_nil h
   exact trodAll_mk0
 | t :: ts, vs, ds, ps, ht, h, hlt => by
   obtain ⟨v, vs', d, ds', p, q, rfl, rfl, rfl, hd, hr⟩ := trodAll_cons h
   simp only [List.all_cons, Bool.and_eq_true, decide_eq_true_eq] at ht
   exact trodAll_cons_mk (Below.trod hl ht.1.1 ht.1.2 hd hb (fun x hx => hlt x (by simp [hx])))
    (trodAll_below hl hb ts vs' ds' q (by simpa using ht.2) hr (fun x hx => hlt x (by simp [hx])))

theorem trodAll_length {H : Type} {enc : TypeId × Value → H} {P : Program} {W : World} {b : Nat} {sp : Nat → Bool} {hd : Bool} :
  ∀ (ts : List TypeId) (vs : List Value) (ds : List (DataW H)) (ps : List MemPlace), DataW.TrodAll enc P W b sp hd ts vs ds ps → ds.length = ts.length
 | [], vs, ds, ps, h => by
   obtain ⟨rfl, rfl, rfl⟩ := trodAll_nil h
   rfl
 | t :: ts, vs, ds, ps, h => by
   obtain ⟨v, vs', d, ds', p, q, rfl, rfl, rfl, hd, hr⟩ := trodAll_cons h
   simp [trodAll_length ts vs' ds' q hr]

theorem post_law {H : Type} {enc : TypeId × Value → H} {P : Program} {f : Func} {s : ChangeSpec} {W W' : World} {args : Array Value} {ds gs : List (DataW H)} {before : List MemPlace} {tb : TypeId}
  (hl : laidOutB P = true) (hread : (f.params.toList.all fun t => P.readableRec t && decide (t < P.types.size)) = true)
  (hres : f.resultTypes = #[tb]) (hbool : P.underlying tb = some .bool) (hvars : s.vars = [])
  (hspec : ∀ ds : List (DataW H), ds.length = f.params.toList.length → s.fn H (ds ++ []) = { results := [.lit (.bool true)], args := ds })
  (hW : DataW.Whole enc P f.params.toList s.vars false W args.toList ds gs before) (bel : Below W.heap.size W W') :
  s.post enc P f false true false false W args (.bool true) W' := by
 have hlt : ∀ p ∈ before, p.block < W.heap.size := fun p hp => hW.lt p hp
 have hW' := hW
 obtain ⟨p, q, hA, hV, rfl, _, _⟩ := hW
 rw [hvars] at hV
 obtain ⟨rfl, rfl⟩ := trodVars_none hV
 have hs := hspec ds (trodAll_length _ _ _ _ hA)
 refine ⟨ds, [], p ++ [], [], p, [], hW', ?_, ?_, ?_, bel.frame _, fun h => by cases h⟩
 ·rw [hs, hres]
  exact trodAll_mk1 (shut_bool hbool _)
 ·rw [hs]
  exact trodAll_below hl bel _ _ _ _ hread hA (fun x hx => hlt x (by simp [hx]))
 ·rw [hs, hvars]
  rfl

end Go.Law
namespace Go.Law
open Go.RowKit
end Go.Law

/-! ### A block that is known whole -/
namespace Go.Law
open Go.RowKit
def Is (w : World) (g : Nat) (t : TypeId) (cs : Array Value) : Prop := w.heap[g]? = some (.cells cs t (0, 0))
section
variable {w w' : World} {g : Nat} {t : TypeId} {cs : Array Value}
theorem Is.lt (h : Is w g t cs) : g < w.heap.size := (Array.getElem?_eq_some_iff.1 h).1
theorem Is.cell (h : Is w g t cs) (i : Nat) : w.cell? ⟨g, i, none⟩ = cs[i]? := cell_of_row w g i cs t (0, 0) h
theorem Is.cell' (h : Is w g t cs) {i : Nat} {v : Value} (hv : cs[i]? = some v) : w.cell? ⟨g, i, none⟩ = some v := (h.cell i).trans hv
theorem Is.frozen (h : Is w g t cs) (i : Nat) : w.frozen? ⟨g, i, none⟩ = false := by
 unfold Is at h
 simp [World.frozen?, h]
theorem Is.new (w : World) (t : TypeId) (cs : Array Value) {g : Nat} (hg : g = w.heap.size) : Is (w.alloc (.cells cs t)) g t cs := by
 subst hg
 exact heap_alloc_new w _
theorem Is.alloc (h : Is w g t cs) (o : Obj) : Is (w.alloc o) g t cs := (Below.heap_alloc w o g h.lt).trans h
theorem Is.drew (h : Is w g t cs) : Is w.drew g t cs := h
theorem Is.drewN (h : Is w g t cs) (n : Nat) : Is (w.drewN n) g t cs := h
theorem Is.below {B : Nat} (h : Is w g t cs) (hb : Below B w w') (hg : g < B) : Is w' g t cs := (hb.block g hg).trans h
theorem Is.set (h : Is w g t cs) (i : Nat) (u : Value) {cs' : Array Value} (hc : cs.setIfInBounds i u = cs') : Is (w.setCell ⟨g, i, none⟩ u) g t cs' := by
 subst hc
 unfold Is at h ⊢
 simp [World.setCell, Array.getElem?_modify, h]
theorem Is.far (h : Is w g t cs) {p : Addr} (hp : g ≠ p.block) (u : Value) : Is (w.setCell p u) g t cs := (Below.heap_setCell w p u g hp).trans h
end
end Go.Law

/-! ### The walk's rules for blocks' numbers: what is below a number is below the next one -/
namespace Go.Law
@[go_sem] theorem lt_more {a b : Nat} (h : a < b) : a < b + 1 := by omega
@[go_sem] theorem lt_more2 {a b : Nat} (h : a < b) : a < b + 1 + 1 := by omega
@[go_sem] theorem lt_more3 {a b : Nat} (h : a < b) : a < b + 1 + 1 + 1 := by omega
@[go_sem] theorem lt_more4 {a b : Nat} (h : a < b) : a < b + 1 + 1 + 1 + 1 := by omega
@[go_sem] theorem lt_more5 {a b : Nat} (h : a < b) : a < b + 1 + 1 + 1 + 1 + 1 := by omega
@[go_sem] theorem lt_more6 {a b : Nat} (h : a < b) : a < b + 1 + 1 + 1 + 1 + 1 + 1 := by omega
@[go_sem] theorem lt_more7 {a b : Nat} (h : a < b) : a < b + 1 + 1 + 1 + 1 + 1 + 1 + 1 := by omega
@[go_sem] theorem lt_more8 {a b : Nat} (h : a < b) : a < b + 1 + 1 + 1 + 1 + 1 + 1 + 1 + 1 := by omega
end Go.Law
namespace Go.Law
open Go.RowKit Go.ChangeShapes Go.WideShapes Go.ChangeAt

def Seq (w : World) (lo B : Nat) (A : Option Addr) (xs : List Value) : Prop :=
 xs ≠ [] → ∃ b off, A = some ⟨b, off, none⟩ ∧ lo ≤ b ∧ b < B ∧ ∀ i u, xs[i]? = some u → w.cell? ⟨b, off + i, none⟩ = some u
section
variable {w w' : World} {lo B lo' B' : Nat} {A : Option Addr} {xs : List Value}
theorem Seq.nil : Seq w lo B A [] := fun h => absurd rfl h
theorem Seq.at {i : Nat} (h : Seq w lo B A xs) (hi : i < xs.length) : ∃ b off, A = some ⟨b, off, none⟩ ∧ lo ≤ b ∧ b < B ∧ w.cell? ⟨b, off + i, none⟩ = some xs[i] := by
 obtain ⟨b, off, e, hl, hb, hc⟩ := h (by intro h0; subst h0; simp at hi)
 exact ⟨b, off, e, hl, hb, hc i _ (List.getElem?_eq_getElem hi)⟩
theorem Seq.str {us : List ByteArray} {i : Nat} (h : Seq w lo B A (us.map .string)) (hi : i < us.length) : ∃ b off, A = some ⟨b, off, none⟩ ∧ lo ≤ b ∧ b < B ∧ w.cell? ⟨b, off + i, none⟩ = some (.string us[i]) := by
 obtain ⟨b, off, e, hl, hb, hc⟩ := h.at (i := i) (by simpa using hi)
 exact ⟨b, off, e, hl, hb, by simpa using hc⟩
theorem Seq.keep (h : Seq w lo B A xs) (hk : ∀ p : Addr, lo ≤ p.block → p.block < B → w'.cell? p = w.cell? p) : Seq w' lo B A xs := fun hn => by
 obtain ⟨b, off, e, hl, hb, hc⟩ := h hn
 exact ⟨b, off, e, hl, hb, fun i u hu => (hk ⟨b, off + i, none⟩ hl hb).trans (hc i u hu)⟩
theorem Seq.more (h : Seq w lo B A xs) (hB : B ≤ B') : Seq w lo B' A xs := fun hn => by
 obtain ⟨b, off, e, hl, hb, hc⟩ := h hn
 exact ⟨b, off, e, hl, by omega, hc⟩
theorem Seq.from_ (h : Seq w lo B A xs) (hl : lo' ≤ lo) : Seq w lo' B A xs := fun hn => by
 obtain ⟨b, off, e, hl', hb, hc⟩ := h hn
 exact ⟨b, off, e, by omega, hb, hc⟩
theorem Seq.below (h : Seq w lo B A xs) (hb : Below B w w') : Seq w' lo B A xs := h.keep fun _ _ hp => hb.cell hp
theorem Seq.store (h : Seq w lo B A xs) {p : Addr} (hp : p.block < lo ∨ B ≤ p.block) (u : Value) : Seq (w.setCell p u) lo B A xs :=
 h.keep fun q h1 h2 => World.cell?_setCell_other w p q u (fun e => by subst e; omega)
theorem Seq.alloc (h : Seq w lo B A xs) (hB : B ≤ w.heap.size) (o : Obj) : Seq (w.alloc o) lo B A xs := h.keep fun p _ hp => World.cell?_alloc_lt w o p (by omega)
theorem Seq.own {base : Nat} {e : TypeId} {size n c : Nat} (h : w.ownsRow base e size (.slice A n c) n xs) : Seq w base w.heap.size A xs := fun hn => by
 have hl : xs.length = n * size := h.1
 obtain ⟨g, cap, hv, hb, hlt⟩ := h.form (by rcases Nat.eq_zero_or_pos n with h0 | h0; · subst h0; exact absurd (List.eq_nil_of_length_eq_zero (by omega)) hn
                                            ·exact h0)
 have hA : A = some ⟨g, 0, none⟩ := by injection hv
 subst hA
 refine ⟨g, 0, rfl, hb, hlt, fun i u hu => ?_⟩
 have := h.cells (g := g) rfl i u hu
 rcases Nat.eq_zero_or_pos i with h0 | h0
 ·subst h0; simpa [Addr.add] using this
 ·simpa [Addr.add, show i ≠ 0 by omega] using this
theorem Seq.adds (h : Seq w lo B A xs) {a : Addr} (hA : A = some a) : ∀ j u, xs[j]? = some u → w.cell? (a.add j) = some u := fun j u hu => by
 obtain ⟨b, off, e, _, _, hc⟩ := h (by intro h0; subst h0; simp at hu)
 rw [hA] at e
 obtain rfl := Option.some.inj e
 have := hc j u hu
 rcases Nat.eq_zero_or_pos j with h0 | h0
 ·subst h0; simpa [Addr.add] using this
 ·simpa [Addr.add, show j ≠ 0 by omega] using this
end

theorem Is.grown {w w' : World} {g : Nat} {t : TypeId} {cs : Array Value} {row : Option Nat} (h : Is w g t cs) (hg : w.grownBy w' row) (hne : row ≠ some g) : Is w' g t cs := (hg.block g h.lt (fun e => hne e.symm)).trans h
theorem own_ne {w : World} {g : Nat} {t : TypeId} {cs : Array Value} {base : Nat} {e : TypeId} {size n : Nat} {v : Value} {xs : List Value} (h : w.ownsRow base e size v n xs) (hg : Is w g t cs) (hne : e ≠ t) : v.ownBlock ≠ some g := by
 rcases h.2 with ⟨rfl, _⟩ | ⟨k, cap, cur, rfl, _, hh, _⟩
 ·simp [Value.ownBlock]
 ·intro he
  have : k = g := by simpa [Value.ownBlock] using he
  subst this
  unfold Is at hg
  rw [hh] at hg
  simp at hg
  exact hne hg.2
theorem below_drewN {B : Nat} {a w : World} (h : Below B a w) (n : Nat) : Below B a (w.drewN n) := ⟨h.os, h.tape, h.output, h.size, h.block⟩
def Drawn (w wr : World) : Prop := ∃ d, wr = w.drewN d
section
variable {w wr : World}
theorem Drawn.refl (w : World) : Drawn w w := ⟨0, rfl⟩
theorem Drawn.drewN (h : Drawn w wr) (n : Nat) : Drawn w (wr.drewN n) := by
 obtain ⟨d, rfl⟩ := h
 exact ⟨d + n, World.drewN_drewN _ _ _⟩
theorem Drawn.cell (h : Drawn w wr) (p : Addr) : wr.cell? p = w.cell? p := by obtain ⟨d, rfl⟩ := h; rfl
theorem Drawn.below {B : Nat} {a : World} (h : Drawn w wr) (hb : Below B a w) : Below B a wr := by obtain ⟨d, rfl⟩ := h; exact below_drewN hb _
theorem Drawn.seq {lo B : Nat} {A : Option Addr} {xs : List Value} (h : Drawn w wr) (hs : Seq w lo B A xs) : Seq wr lo B A xs := hs.keep fun p _ _ => h.cell p
end
theorem quiet {P : Program} {f : FuncId} {args : Array Value} {w : World} {n : Nat} {v : Value}
  (h : Calls P f args (w.drewN n) fun e w' => e = .returned v ∧ w.drewN n = w') : Calls P f args (w.drewN n) fun e w'' => e = .returned v ∧ ∃ m, w'' = w.drewN m :=
 h.mono fun _ _ ⟨he, hm⟩ => ⟨he, n, hm.symm⟩

/-! ### append from whatever slice -/
section
variable {P : Program} (w : World) (base : Nat) (t : TypeId) {e : TypeId} {i : TypeInfo} {z : Value} {size bytes : Nat}
structure Elem (P : Program) (t e : TypeId) (i : TypeInfo) (z : Value) (size bytes : Nat) : Prop where
 ut : P.underlying t = some (.slice e)
 info : P.info? e = some i
 zero : i.zero = some z
 sz : i.size = size
 by_ : i.bytes = bytes
 cells : z.cells.size = size
 pos : 0 < size
theorem Elem.of {P : Program} {t e : TypeId} {z : Value} {size bytes : Nat} (ut : P.underlying t = some (.slice e)) (h : (P.info? e).map (fun i => (i.zero, i.size, i.bytes)) = some (some z, size, bytes)) (hc : z.cells.size = size) (hp : 0 < size) : ∃ i, Elem P t e i z size bytes := by
 obtain ⟨i, h1, h2, h3, h4⟩ := info_parts h
 exact ⟨i, ut, h1, h2, h3, h4, hc, hp⟩
theorem run_append_seq (E : Elem P t e i z size bytes) (ty : TypeId) (v : Value) (n : Nat) (xs : List Value) (hown : w.ownsRow base e size v n xs)
  (lo B : Nat) (A : Option Addr) (m c : Nat) (news : List Value) (hl : news.length = m * size) (hr : Seq w lo B A news) (h1 : ∀ u ∈ news, u.oneCell' = true)
  (h63 : n + m ≤ maxLen) (hbytes : (n + m) * bytes ≤ 140737488355328) (hbase : base ≤ w.heap.size) :
  ∃ v' w', (Builtin.append_ #[t, t] ty #[v, .slice A m c]).run P w = .ok v' w' ∧ w'.ownsRow base e size v' (n + m) (xs ++ news) ∧ w.grownBy w' v.ownBlock := by
 match hA : A with
 | some ad =>
   obtain ⟨v', w', hrun, h2, h3, _⟩ := run_append_own_at (P := P) w base t ty e i z size bytes E.ut E.info E.zero E.sz E.by_ E.cells E.pos v n xs hown ad m c news hl (hr.adds rfl) h1 h63 hbytes hbase
   exact ⟨v', w', hrun, h2, h3⟩
 | none =>
   have hn : news = [] := by
    rcases news with _ | ⟨u, us⟩
    ·rfl
    ·obtain ⟨_, _, h, _⟩ := hr (by simp)
     cases h
   subst hn
   have hm : m = 0 := by
    rcases Nat.eq_zero_or_pos m with h0 | h0
    ·exact h0
    ·have := Nat.mul_pos h0 E.pos
     simp at hl
     omega
   subst hm
   refine ⟨v, w, ?_, by simpa using hown, World.grownBy.refl w _⟩
   rcases hown.2 with ⟨rfl, rfl⟩ | ⟨g, cap, cur, rfl, _, _, hnc, _⟩
   ·simp [Builtin.append_, run_underlying E.ut, sizeOf, typeInfo, E.info, Builtin.lenOf, Builtin.firstCells]
   ·simp [Builtin.append_, run_underlying E.ut, sizeOf, typeInfo, E.info, Builtin.lenOf, Builtin.firstCells, hnc, storeCells]
theorem wp_append_seq {o : Oper} {a : Act} {K : Act → World → Prop} {Q : Exit → Act → World → Prop} (s x : Operand)
  (ho : o.op = .call { callee := .builtin .append, args := #[s, x], argTypes := #[t, t] }) (E : Elem P t e i z size bytes)
  (v : Value) (n : Nat) (xs : List Value) (hs : a.eval s = v) (hown : w.ownsRow base e size v n xs)
  (lo B : Nat) (A : Option Addr) (m c : Nat) (news : List Value) (hx : a.eval x = .slice A m c) (hl : news.length = m * size) (hr : Seq w lo B A news) (h1 : ∀ u ∈ news, u.oneCell' = true)
  (h63 : n + m ≤ maxLen) (hbytes : (n + m) * bytes ≤ 140737488355328) (hbase : base ≤ w.heap.size)
  (h : ∀ v' w', w'.ownsRow base e size v' (n + m) (xs ++ news) → w.grownBy w' v.ownBlock → K (a.put o.dst v') w') : o.wp P a w K Q := by
 obtain ⟨v', w', hrun, h2, h3⟩ := run_append_seq w base t E o.type v n xs hown lo B A m c news hl hr h1 h63 hbytes hbase
 unfold Oper.wp execOp
 simp only [ho, resolve, invoke, builtin, Sem.run_bind, Sem.run_pure, Result.andThen_ok, List.map_toArray, List.map_cons, List.map_nil, hs, hx, hrun]
 exact h v' w' h2 h3
theorem wpList_append_seq {ops : Array Oper} {rest : List Oper} {o : Oper} {a : Act} {Q : Exit → Act → World → Prop} (hgd : o.guard = none) (s x : Operand)
  (ho : o.op = .call { callee := .builtin .append, args := #[s, x], argTypes := #[t, t] }) (E : Elem P t e i z size bytes)
  (v : Value) (n : Nat) (xs : List Value) (hs : a.eval s = v) (hown : w.ownsRow base e size v n xs)
  (lo B : Nat) (A : Option Addr) (m c : Nat) (news : List Value) (hx : a.eval x = .slice A m c) (hl : news.length = m * size) (hr : Seq w lo B A news) (h1 : ∀ u ∈ news, u.oneCell' = true)
  (h63 : n + m ≤ maxLen) (hbytes : (n + m) * bytes ≤ 140737488355328) (hbase : base ≤ w.heap.size)
  (h : ∀ v' w', w'.ownsRow base e size v' (n + m) (xs ++ news) → w.grownBy w' v.ownBlock → wpList P ops Q rest (a.put o.dst v') w') : wpList P ops Q (o :: rest) a w :=
 wpList_plain hgd fun _ hK => wp_append_seq w base t s x ho E v n xs hs hown lo B A m c news hx hl hr h1 h63 hbytes hbase fun v' w' h2 h3 => hK _ _ (h v' w' h2 h3)
theorem step_append_seq {ops : Array Oper} {o : Oper} {a : Act} {K : Act → World → Prop} {Q : Exit → Act → World → Prop} {X : Prop} (hgd : o.guard = none) (s x : Operand)
  (ho : o.op = .call { callee := .builtin .append, args := #[s, x], argTypes := #[t, t] }) (E : Elem P t e i z size bytes)
  (v : Value) (n : Nat) (xs : List Value) (hs : a.eval s = v) (hown : w.ownsRow base e size v n xs)
  (lo B : Nat) (A : Option Addr) (m c : Nat) (news : List Value) (hx : a.eval x = .slice A m c) (hl : news.length = m * size) (hr : Seq w lo B A news) (h1 : ∀ u ∈ news, u.oneCell' = true)
  (h63 : n + m ≤ maxLen) (hbytes : (n + m) * bytes ≤ 140737488355328) (hbase : base ≤ w.heap.size)
  (h : ∀ v' w', w'.ownsRow base e size v' (n + m) (xs ++ news) → w.grownBy w' v.ownBlock → K (a.put o.dst v') w') :
  if Region.wanted o (yielded ops a.tmps) = true then Oper.wp P o a w K Q else X := by
 rw [if_pos (by simp [Region.wanted, hgd])]
 exact wp_append_seq w base t s x ho E v n xs hs hown lo B A m c news hx hl hr h1 h63 hbytes hbase h
end
theorem str_one (us : List ByteArray) : ∀ u ∈ us.map Value.string, u.oneCell' = true := by
 intro u hu
 obtain ⟨_, _, rfl⟩ := List.mem_map.1 hu
 rfl
theorem own_shape {w : World} {base : Nat} {e : TypeId} {size n : Nat} {v : Value} {xs : List Value} (h : w.ownsRow base e size v n xs) : ∃ A c, v = .slice A n c ∧ n ≤ c := by
 rcases h.2 with ⟨rfl, rfl⟩ | ⟨g, cap, cur, rfl, _, _, hn, _⟩
 ·exact ⟨none, 0, rfl, Nat.le_refl _⟩
 ·exact ⟨_, _, rfl, hn⟩
theorem own_below {w w' : World} {base : Nat} {e : TypeId} {size n : Nat} {v : Value} {xs : List Value} (h : w.ownsRow base e size v n xs) (hb : Below w.heap.size w w') : w'.ownsRow base e size v n xs := by
 refine ⟨h.1, ?_⟩
 rcases h.2 with hn | ⟨g, cap, cur, rfl, hg, hgg, rest⟩
 ·exact .inl hn
 ·exact .inr ⟨g, cap, cur, rfl, hg, (hb.block g (Array.getElem?_eq_some_iff.1 hgg).1).trans hgg, rest⟩
theorem own_drewN {w : World} {base : Nat} {e : TypeId} {size n : Nat} {v : Value} {xs : List Value} (h : w.ownsRow base e size v n xs) (k : Nat) : (w.drewN k).ownsRow base e size v n xs := h
end Go.Law
