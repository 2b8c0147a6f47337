/-
  Lists of keys and values that rise, and a tree in memory whose nodes never turn: a node is a block of five cells (key, value, left, right, how many). General over programs.
-/
import Derived.Test.YtohdlnefgieenaaGreatJ0
import Derived.Laws.CopyOwn
import Derived.Deep.RegionLaw
import Derived.Lib.AppendZerosOnto
namespace Go.Law
open Go.RowKit

/-! ### Lists of pairs that rise -/
structure Tri {κ : Type} (lt : κ → κ → Prop) : Prop where
 irr : ∀ a, ¬ lt a a
 tr : ∀ {a b c}, lt a b → lt b c → lt a c
 tri : ∀ a b, lt a b ∨ a = b ∨ lt b a
theorem Tri.asym {κ : Type} {lt : κ → κ → Prop} (h : Tri lt) {a b : κ} (hab : lt a b) : ¬ lt b a := fun hba => h.irr a (h.tr hab hba)
theorem Tri.ne {κ : Type} {lt : κ → κ → Prop} (h : Tri lt) {a b : κ} (hab : lt a b) : a ≠ b := fun e => h.irr b (e ▸ hab)
section
variable {κ ν : Type} (lt : κ → κ → Prop)
def Rises (xs : List (κ × ν)) : Prop := xs.Pairwise fun a b => lt a.1 b.1
variable {lt} {xs ys : List (κ × ν)} {a : κ} {b : ν}
theorem Rises.left (h : Rises lt (xs ++ (a, b) :: ys)) : Rises lt xs := (List.pairwise_append.1 h).1
theorem Rises.right (h : Rises lt (xs ++ (a, b) :: ys)) : Rises lt ys := (List.pairwise_cons.1 (List.pairwise_append.1 h).2.1).2
theorem Rises.less (h : Rises lt (xs ++ (a, b) :: ys)) : ∀ p ∈ xs, lt p.1 a := fun p hp => (List.pairwise_append.1 h).2.2 p hp (a, b) (by simp)
theorem Rises.more (h : Rises lt (xs ++ (a, b) :: ys)) : ∀ p ∈ ys, lt a p.1 := fun p hp => (List.pairwise_cons.1 (List.pairwise_append.1 h).2.1).1 p hp
theorem Rises.tail {p : κ × ν} (h : Rises lt (p :: xs)) : Rises lt xs := (List.pairwise_cons.1 h).2
theorem Rises.head {p : κ × ν} (h : Rises lt (p :: xs)) : ∀ q ∈ xs, lt p.1 q.1 := (List.pairwise_cons.1 h).1
theorem Rises.nil : Rises lt ([] : List (κ × ν)) := List.Pairwise.nil
end
section
variable {κ ν : Type} (lt : κ → κ → Prop) [DecidableRel lt] [DecidableEq κ]
def putK (k : κ) (v : ν) : List (κ × ν) → List (κ × ν)
 | [] => [(k, v)]
 | p :: r => if lt k p.1 then (k, v) :: p :: r else if lt p.1 k then p :: putK k v r else (k, v) :: r
omit [DecidableEq κ] in
theorem putK_mem {k : κ} {v : ν} : ∀ {xs : List (κ × ν)} {q : κ × ν}, q ∈ putK lt k v xs → q = (k, v) ∨ q ∈ xs
 | [], q, h => by simp [putK] at h; exact .inl h
 | p :: r, q, h => by
   unfold putK at h
   split at h
   ·rcases List.mem_cons.1 h with h | h
    ·exact .inl h
    ·exact .inr h
   ·split at h
    ·rcases List.mem_cons.1 h with h | h
     ·exact .inr (by simp [h])
     ·rcases putK_mem h with h | h
      ·exact .inl h
      ·exact .inr (by simp [h])
    ·rcases List.mem_cons.1 h with h | h
     ·exact .inl h
     ·exact .inr (by simp [h])
omit [DecidableEq κ] in
theorem putK_rises (ht : Tri lt) {k : κ} {v : ν} : ∀ {xs : List (κ × ν)}, Rises lt xs → Rises lt (putK lt k v xs)
 | [], _ => List.pairwise_singleton _ _
 | p :: r, h => by
   unfold putK
   split
   ·rename_i h1
    refine List.pairwise_cons.2 ⟨fun q hq => ?_, h⟩
    rcases List.mem_cons.1 hq with rfl | hq
    ·exact h1
    ·exact ht.tr h1 (h.head q hq)
   ·rename_i h1
    split
    ·rename_i h2
     refine List.pairwise_cons.2 ⟨fun q hq => ?_, putK_rises ht h.tail⟩
     rcases putK_mem lt hq with rfl | hq
     ·exact h2
     ·exact h.head q hq
    ·rename_i h2
     have e : k = p.1 := by rcases ht.tri k p.1 with e | e | e; exact absurd e h1; exact e; exact absurd e h2
     exact List.pairwise_cons.2 ⟨fun q hq => by rw [e]; exact h.head q hq, h.tail⟩
omit [DecidableEq κ] in
theorem putK_length (k : κ) (v : ν) : ∀ xs : List (κ × ν), (putK lt k v xs).length ≤ xs.length + 1 ∧ xs.length ≤ (putK lt k v xs).length
 | [] => by simp [putK]
 | p :: r => by
   have := putK_length k v r
   unfold putK
   split
   ·simp
   ·split <;> simp <;> omega
omit [DecidableEq κ] in
theorem putK_left {k a : κ} {v b : ν} {ys : List (κ × ν)} (h : lt k a) : ∀ xs : List (κ × ν), putK lt k v (xs ++ (a, b) :: ys) = putK lt k v xs ++ (a, b) :: ys
 | [] => by simp [putK, h]
 | p :: r => by
   have ih := putK_left h (v := v) (b := b) (ys := ys) r
   simp only [List.cons_append, putK]
   split
   ·rfl
   ·split
    ·rw [ih]; rfl
    ·rfl
omit [DecidableEq κ] in
theorem putK_right (ht : Tri lt) {k a : κ} {v b : ν} {ys : List (κ × ν)} (h : lt a k) : ∀ xs : List (κ × ν), Rises lt (xs ++ (a, b) :: ys) → putK lt k v (xs ++ (a, b) :: ys) = xs ++ (a, b) :: putK lt k v ys
 | [], _ => by simp [putK, h, ht.asym h]
 | p :: r, hr => by
   have ih := putK_right ht h (v := v) (b := b) (ys := ys) r hr.tail
   have h1 : lt p.1 k := ht.tr (hr.less p (by simp)) h
   simp only [List.cons_append, putK, if_neg (ht.asym h1), if_pos h1, ih]
omit [DecidableEq κ] in
theorem putK_same (ht : Tri lt) {a : κ} {v b : ν} {ys : List (κ × ν)} : ∀ xs : List (κ × ν), Rises lt (xs ++ (a, b) :: ys) → putK lt a v (xs ++ (a, b) :: ys) = xs ++ (a, v) :: ys
 | [], _ => by simp [putK, ht.irr]
 | p :: r, hr => by
   have ih := putK_same ht (v := v) (b := b) (ys := ys) r hr.tail
   have h1 : lt p.1 a := hr.less p (by simp)
   simp only [List.cons_append, putK, if_neg (ht.asym h1), if_pos h1, ih]

def outK (k : κ) (xs : List (κ × ν)) : List (κ × ν) := xs.filter fun p => decide (p.1 ≠ k)
theorem outK_none {k : κ} {xs : List (κ × ν)} (h : ∀ p ∈ xs, p.1 ≠ k) : outK k xs = xs := List.filter_eq_self.2 fun p hp => by simpa using h p hp
theorem outK_app (k : κ) (xs ys : List (κ × ν)) : outK k (xs ++ ys) = outK k xs ++ outK k ys := List.filter_append ..
omit [DecidableRel lt] in
theorem outK_rises {k : κ} {xs : List (κ × ν)} (h : Rises lt xs) : Rises lt (outK k xs) := List.Pairwise.sublist (List.filter_sublist) h
theorem outK_length (k : κ) (xs : List (κ × ν)) : (outK k xs).length ≤ xs.length := List.length_filter_le ..
omit [DecidableRel lt] in
theorem outK_left (ht : Tri lt) {k a : κ} {b : ν} {xs ys : List (κ × ν)} (h : lt k a) (hr : Rises lt (xs ++ (a, b) :: ys)) : outK k (xs ++ (a, b) :: ys) = outK k xs ++ (a, b) :: ys := by
 rw [outK_app]
 congr 1
 refine outK_none fun p hp => ?_
 rcases List.mem_cons.1 hp with rfl | hp
 ·exact (ht.ne h).symm
 ·exact (ht.ne (ht.tr h (hr.more p hp))).symm
omit [DecidableRel lt] in
theorem outK_right (ht : Tri lt) {k a : κ} {b : ν} {xs ys : List (κ × ν)} (h : lt a k) (hr : Rises lt (xs ++ (a, b) :: ys)) : outK k (xs ++ (a, b) :: ys) = xs ++ (a, b) :: outK k ys := by
 have e : outK k ((a, b) :: ys) = (a, b) :: outK k ys := List.filter_cons_of_pos (by simpa using ht.ne h)
 rw [outK_app, e]
 congr 1
 exact outK_none fun p hp => ht.ne (ht.tr (hr.less p hp) h)
omit [DecidableRel lt] in
theorem outK_same (ht : Tri lt) {a : κ} {b : ν} {xs ys : List (κ × ν)} (hr : Rises lt (xs ++ (a, b) :: ys)) : outK a (xs ++ (a, b) :: ys) = xs ++ ys := by
 have e : outK a ((a, b) :: ys) = outK a ys := List.filter_cons_of_neg (by simp)
 rw [outK_app, e, outK_none fun p hp => ht.ne (hr.less p hp), outK_none fun p hp => (ht.ne (hr.more p hp)).symm]

def getK (k : κ) : List (κ × ν) → Option ν
 | [] => none
 | p :: r => if p.1 = k then some p.2 else getK k r
theorem getK_none {k : κ} : ∀ {xs : List (κ × ν)}, (∀ p ∈ xs, p.1 ≠ k) → getK k xs = none
 | [], _ => rfl
 | p :: r, h => by rw [getK, if_neg (h p (by simp)), getK_none fun q hq => h q (by simp [hq])]
theorem getK_app {k : κ} {ys : List (κ × ν)} : ∀ {xs : List (κ × ν)}, (∀ p ∈ xs, p.1 ≠ k) → getK k (xs ++ ys) = getK k ys
 | [], _ => rfl
 | p :: r, h => by rw [List.cons_append, getK, if_neg (h p (by simp)), getK_app fun q hq => h q (by simp [hq])]
omit [DecidableRel lt] in
theorem getK_left (ht : Tri lt) {k a : κ} {b : ν} {ys : List (κ × ν)} (h : lt k a) : ∀ {xs : List (κ × ν)}, Rises lt (xs ++ (a, b) :: ys) → getK k (xs ++ (a, b) :: ys) = getK k xs
 | [], hr => getK_none fun p hp => by
   rcases List.mem_cons.1 hp with rfl | hp
   ·exact (ht.ne h).symm
   ·exact (ht.ne (ht.tr h (hr.more p hp))).symm
 | p :: r, hr => by rw [List.cons_append, getK, getK, getK_left ht h hr.tail]
omit [DecidableRel lt] in
theorem getK_right (ht : Tri lt) {k a : κ} {b : ν} {xs ys : List (κ × ν)} (h : lt a k) (hr : Rises lt (xs ++ (a, b) :: ys)) : getK k (xs ++ (a, b) :: ys) = getK k ys := by
 rw [getK_app fun p hp => ht.ne (ht.tr (hr.less p hp) h), getK, if_neg (ht.ne h)]
omit [DecidableRel lt] in
theorem getK_same (ht : Tri lt) {a : κ} {b : ν} {xs ys : List (κ × ν)} (hr : Rises lt (xs ++ (a, b) :: ys)) : getK a (xs ++ (a, b) :: ys) = some b := by
 rw [getK_app fun p hp => ht.ne (hr.less p hp), getK, if_pos rfl]
end

/-! ### A tree in memory -/
section
variable {t : TypeId} {κ ν : Type} {ek : κ → Value} {ev : ν → Value} {w w' : World} {B B' : Nat} {p : Option Addr} {xs : List (κ × ν)}
structure Keeps (t : TypeId) (w w' : World) : Prop where
 size : w.heap.size ≤ w'.heap.size
 is : ∀ {b cs}, Is w b t cs → Is w' b t cs
theorem Keeps.refl (t : TypeId) (w : World) : Keeps t w w := ⟨Nat.le_refl _, fun h => h⟩
theorem Keeps.trans {w'' : World} (h : Keeps t w w') (h' : Keeps t w' w'') : Keeps t w w'' := ⟨Nat.le_trans h.size h'.size, fun hi => h'.is (h.is hi)⟩
theorem Keeps.drewN (t : TypeId) (w : World) (n : Nat) : Keeps t w (w.drewN n) := ⟨Nat.le_refl _, fun h => h⟩
theorem Keeps.of_below (hb : Below w.heap.size w w') : Keeps t w w' := ⟨hb.size, fun h => h.below hb h.lt⟩
theorem Is.type_ne {t t' : TypeId} {g b : Nat} {cs cs' : Array Value} (hi : Is w b t cs) (hg : Is w g t' cs') (ht : t ≠ t') : b ≠ g := by
 intro e
 subst e
 unfold Is at hi hg
 rw [hi] at hg
 injection hg with hg
 injection hg with _ h2
 exact ht h2
theorem Keeps.store {g i : Nat} {t' : TypeId} {cs : Array Value} (hg : Is w g t' cs) (ht : t ≠ t') (u : Value) : Keeps t w (w.setCell ⟨g, i, none⟩ u) :=
 ⟨by simp, fun hi => hi.far (p := ⟨g, i, none⟩) (hi.type_ne hg ht) u⟩
theorem Keeps.alloc {t : TypeId} {w : World} (o : Obj) : Keeps t w (w.alloc o) := Keeps.of_below ((Below.refl _ w).alloc (Nat.le_refl _) o)
theorem Keeps.grown {t e : TypeId} {w w' : World} {base size n : Nat} {v : Value} {xs : List Value} (h : w.ownsRow base e size v n xs) (hg : w.grownBy w' v.ownBlock) (ht : e ≠ t) : Keeps t w w' :=
 ⟨hg.size, fun hi => (hg.block _ hi.lt fun hk => own_ne h hi ht hk.symm).trans hi⟩
end
end Go.Law
namespace Go.Law
open Go.RowKit
section
variable {P : Program} (w : World)
structure Turned (w w' : World) (g : Nat) : Prop where
 os : w'.os = w.os
 tape : w'.tape = w.tape
 output : w'.output = w.output
 size : w'.heap.size = w.heap.size
 block : ∀ k, k ≠ g → w'.heap[k]? = w.heap[k]?
theorem Turned.setRow (g : Nat) (cs : Array Value) : Turned w (w.setRow g cs) g := ⟨rfl, rfl, rfl, by simp [World.setRow], fun k hk => setRow_other w g k cs hk⟩
theorem Turned.below {w w' w0 : World} {g B : Nat} (h : Turned w w' g) (hb : Below B w0 w) (hg : B ≤ g) : Below B w0 w' :=
 hb.trans ⟨h.os, h.tape, h.output, by rw [h.size]; exact Nat.le_refl _, fun k hk => h.block k (by omega)⟩
theorem splice_all {α : Type} (cur cs : List α) (h : cur.length = cs.length) : splice cur 0 cs = cs := by
 unfold splice
 rw [List.take_zero, List.nil_append, Nat.zero_add, List.drop_of_length_le (by omega), List.append_nil]
theorem copy_any {dT sT ty elem : TypeId} {size g o dLen dCap lo B sLen sCap : Nat} {A : Option Addr} {cur : List Value} {t : TypeId} {cs : List Value}
  (hu : P.underlying dT = some (.slice elem)) (hs : (P.info? elem).map (·.size) = some size) (hg : Is w g t cur.toArray) (hn : cs.length = Nat.min sLen dLen * size) (hA : Seq w lo B A cs)
  (hfit : o + cs.length ≤ cur.length) (h1 : ∀ v ∈ cs, v.oneCell' = true) :
  (Builtin.copy_ #[dT, sT] ty #[.slice (some ⟨g, o, none⟩) dLen dCap, .slice A sLen sCap]).run P w = .ok (goInt (Nat.min sLen dLen)) (w.setRow g (splice cur o cs).toArray) := by
 cases hq : P.info? elem with
 | none => simp [hq] at hs
 | some i =>
   have hi : i.size = size := by simpa [hq] using hs
   have hg' : w.heap[g]? = some (.cells cur.toArray t (0, 0)) := hg
   have hst := run_storeCells_at P g o t cs 0 cur.toArray w hg' (by simpa using hfit) h1
   simp only [Nat.add_zero] at hst
   match A, hA with
   | some a, hA =>
     have hf := run_firstCells_some (P := P) w size (Nat.min sLen dLen) a sLen sCap cs hn (hA.adds rfl)
     simp [Builtin.copy_, run_underlying hu, Builtin.lenOf, sizeOf, typeInfo, hq, hi, hf, hst, splice, List.append_assoc]
   | none, hA =>
     have hc : cs = [] := by
      rcases cs with _ | ⟨u, us⟩
      ·rfl
      ·obtain ⟨_, _, h, _⟩ := hA (by simp)
       cases h
     subst hc
     have e : splice cur o [] = cur := by simp [splice]
     rw [e, setRow_self w g cur.toArray t (0, 0) hg']
     simp [Builtin.copy_, run_underlying hu, Builtin.lenOf, Builtin.firstCells, sizeOf, typeInfo, hq, storeCells]

theorem wpList_copy_any {ops : Array Oper} {rest : List Oper} {op : Oper} {a : Act} {Q : Exit → Act → World → Prop} (hgd : op.guard = none) (d s : Operand) {dT sT elem : TypeId}
  (ho : op.op = .call { callee := .builtin .copy, args := #[d, s], argTypes := #[dT, sT] }) {size g o dLen dCap lo B sLen sCap : Nat} {A : Option Addr} {cur : List Value} {t : TypeId} {cs : List Value}
  (hd : a.eval d = .slice (some ⟨g, o, none⟩) dLen dCap) (hx : a.eval s = .slice A sLen sCap)
  (hu : P.underlying dT = some (.slice elem)) (hs : (P.info? elem).map (·.size) = some size) (hg : Is w g t cur.toArray) (hn : cs.length = Nat.min sLen dLen * size) (hA : Seq w lo B A cs)
  (hfit : o + cs.length ≤ cur.length) (h1 : ∀ v ∈ cs, v.oneCell' = true)
  (h : ∀ w', Is w' g t (splice cur o cs).toArray → Turned w w' g → wpList P ops Q rest (a.put op.dst (goInt (Nat.min sLen dLen))) w') : wpList P ops Q (op :: rest) a w := by
 refine wpList_plain hgd fun K hK => ?_
 have hr := copy_any (P := P) w (ty := op.type) (sT := sT) (dCap := dCap) (sCap := sCap) hu hs hg hn hA hfit h1
 unfold Oper.wp
 simp [execOp, ho, resolve, invoke, builtin, hd, hx, hr, Result.andThen]
 exact hK _ _ (h _ (setRow_heap w g _ _ t _ hg) (Turned.setRow w g _))
theorem step_copy_any {ops : Array Oper} {op : Oper} {a : Act} {K : Act → World → Prop} {Q : Exit → Act → World → Prop} {X : Prop} (hgd : op.guard = none) (d s : Operand) {dT sT elem : TypeId}
  (ho : op.op = .call { callee := .builtin .copy, args := #[d, s], argTypes := #[dT, sT] }) {size g o dLen dCap lo B sLen sCap : Nat} {A : Option Addr} {cur : List Value} {t : TypeId} {cs : List Value}
  (hd : a.eval d = .slice (some ⟨g, o, none⟩) dLen dCap) (hx : a.eval s = .slice A sLen sCap)
  (hu : P.underlying dT = some (.slice elem)) (hs : (P.info? elem).map (·.size) = some size) (hg : Is w g t cur.toArray) (hn : cs.length = Nat.min sLen dLen * size) (hA : Seq w lo B A cs)
  (hfit : o + cs.length ≤ cur.length) (h1 : ∀ v ∈ cs, v.oneCell' = true)
  (h : ∀ w', Is w' g t (splice cur o cs).toArray → Turned w w' g → K (a.put op.dst (goInt (Nat.min sLen dLen))) w') :
  if Region.wanted op (yielded ops a.tmps) = true then Oper.wp P op a w K Q else X := by
 rw [if_pos (by simp [Region.wanted, hgd])]
 have hr := copy_any (P := P) w (ty := op.type) (sT := sT) (dCap := dCap) (sCap := sCap) hu hs hg hn hA hfit h1
 unfold Oper.wp
 simp [execOp, ho, resolve, invoke, builtin, hd, hx, hr, Result.andThen]
 exact h _ (setRow_heap w g _ _ t _ hg) (Turned.setRow w g _)

theorem step_append_fits {ops : Array Oper} {op : Oper} {a : Act} {K : Act → World → Prop} {Q : Exit → Act → World → Prop} {X : Prop} (hgd : op.guard = none) (s x : Operand) {t e : TypeId} {i : TypeInfo} {z : Value} {size bytes : Nat}
  (ho : op.op = .call { callee := .builtin .append, args := #[s, x], argTypes := #[t, t] }) (E : Elem P t e i z size bytes) {g sLen sCap lo B m c : Nat} {A : Option Addr} {cur news : List Value}
  (hv : a.eval s = .slice (some ⟨g, 0, none⟩) sLen sCap) (hx : a.eval x = .slice A m c) (hg : Is w g e cur.toArray) (hl : news.length = m * size) (hA : Seq w lo B A news) (h1 : ∀ v ∈ news, v.oneCell' = true)
  (hroom : sLen + m ≤ sCap) (hfit : sLen * size + news.length ≤ cur.length)
  (h : ∀ w', Is w' g e (splice cur (sLen * size) news).toArray → Turned w w' g → K (a.put op.dst (.slice (some ⟨g, 0, none⟩) (sLen + m) sCap)) w') :
  if Region.wanted op (yielded ops a.tmps) = true then Oper.wp P op a w K Q else X := by
 rw [if_pos (by simp [Region.wanted, hgd])]
 have hr : (Builtin.append_ #[t, t] op.type #[.slice (some ⟨g, 0, none⟩) sLen sCap, .slice A m c]).run P w = .ok (.slice (some ⟨g, 0, none⟩) (sLen + m) sCap) (w.setRow g (splice cur (sLen * size) news).toArray) := by
  match A, hA with
  | some ad, hA =>
    have := run_append_room (P := P) w t op.type e i E.ut E.info g sLen sCap cur.toArray hg ad m c news (by rw [E.sz]; exact hl) (hA.adds rfl) h1 hroom (by rw [E.sz]; simpa using hfit)
    rw [this, E.sz]
    simp [splice, List.append_assoc]
  | none, hA =>
    have hn : news = [] := by
     rcases news with _ | ⟨u, us⟩
     ·rfl
     ·obtain ⟨_, _, h, _⟩ := hA (by simp)
      cases h
    subst hn
    have hm : m = 0 := by
     rcases Nat.eq_zero_or_pos m with h0 | h0
     ·exact h0
     ·have := Nat.mul_pos h0 E.pos
      simp at hl
      omega
    subst hm
    have e1 : splice cur (sLen * size) [] = cur := by simp [splice]
    have hsc : sLen ≤ sCap := by omega
    rw [e1, setRow_self w g cur.toArray e (0, 0) hg]
    simp [Builtin.append_, run_underlying E.ut, sizeOf, typeInfo, E.info, Builtin.lenOf, Builtin.firstCells, hsc, storeCells]
 unfold Oper.wp
 simp [execOp, ho, resolve, invoke, builtin, hv, hx, hr, Result.andThen]
 exact h _ (setRow_heap w g _ _ e _ hg) (Turned.setRow w g _)

theorem clear_any {t e ty : TypeId} {z : Value} {size : Nat} (hu : P.underlying t = some (.slice e)) (hv : ∀ w, (zeroValue e).run P w = .ok z w) (hz : z.cells.size = size) (h1 : ∀ u ∈ z.cells.toList, u.oneCell' = true) (hp : 0 < size)
  {g o n c : Nat} {cur : List Value} {te : TypeId} (hn : 0 < n) (hg : Is w g te cur.toArray) (hfit : o + n * size ≤ cur.length) :
  (Builtin.clear_ #[t] ty #[.slice (some ⟨g, o, none⟩) n c]).run P w = .ok (.tuple #[]) (w.setRow g (splice cur o (Builtin.zeroCells z.cells n).toList).toArray) := by
 have hl : (Builtin.zeroCells z.cells n).toList.length = n * size := by rw [Array.length_toList, size_zeroCells, hz]
 have hone : ∀ u ∈ (Builtin.zeroCells z.cells n).toList, u.oneCell' = true := by
  intro u hu
  simp only [Builtin.zeroCells, Array.toList_map, List.mem_map] at hu
  obtain ⟨i, _, rfl⟩ := hu
  have hlt : i % z.cells.size < z.cells.size := Nat.mod_lt _ (by omega)
  rw [getElem!_pos z.cells _ hlt]
  exact h1 _ (by simp)
 have hst := run_storeCells_at P g o te _ 0 cur.toArray w hg (by rw [hl]; simpa using hfit) hone
 simp only [Nat.add_zero] at hst
 obtain ⟨m, rfl⟩ : ∃ m, n = m + 1 := ⟨n - 1, by omega⟩
 simp [Builtin.clear_, run_underlying hu, hv, hst, splice, List.append_assoc]
end
end Go.Law
namespace Go.Law
open Go.RowKit
abbrev Sn := Int × Int × Int × Int
abbrev ltI : Int → Int → Prop := fun a b => a < b
theorem triI : Tri ltI := ⟨fun a => Int.lt_irrefl a, fun h1 h2 => Int.lt_trans h1 h2, fun a b => by rcases Int.lt_trichotomy a b with h | h | h; exact .inl h; exact .inr (.inl h); exact .inr (.inr h)⟩
abbrev Up (l : List Sn) : Prop := Rises ltI l
def put (s : Sn) (l : List Sn) : List Sn := putK ltI s.1 s.2 l
def out (k : Int) (l : List Sn) : List Sn := outK k l
def hasS (k : Int) (l : List Sn) : Bool := l.any fun q => q.1 == k
def live (now : Int) (l : List Sn) : List Sn := l.filter fun q => decide (now < q.2.2.2)
def beat1 (k u : Int) (q : Sn) : Sn := if q.1 = k ∧ q.2.2.2 < u then (q.1, q.2.1, q.2.2.1, u) else q
def beatS (k u : Int) (l : List Sn) : List Sn := l.map (beat1 k u)
def atS (k : Int) (l : List Sn) : Nat := l.findIdx fun q => q.1 == k
def pastS (k : Int) (l : List Sn) : Nat := l.findIdx fun q => decide (k < q.1)
theorem atS_cons (k : Int) (p : Sn) (r : List Sn) : atS k (p :: r) = if p.1 = k then 0 else atS k r + 1 := by
 unfold atS; rw [List.findIdx_cons]; by_cases h : p.1 = k
 ·simp [h]
 ·have h' : (p.1 == k) = false := by simpa using h
  simp only [h', if_neg h, cond_false]
theorem pastS_cons (k : Int) (p : Sn) (r : List Sn) : pastS k (p :: r) = if k < p.1 then 0 else pastS k r + 1 := by
 unfold pastS; rw [List.findIdx_cons]; by_cases h : k < p.1
 ·simp [h]
 ·simp [h]
theorem atS_le (k : Int) (l : List Sn) : atS k l ≤ l.length := List.findIdx_le_length
theorem pastS_le (k : Int) (l : List Sn) : pastS k l ≤ l.length := List.findIdx_le_length
theorem hasS_cons (k : Int) (p : Sn) (r : List Sn) : hasS k (p :: r) = (p.1 == k || hasS k r) := rfl
theorem has_at (k : Int) : ∀ l : List Sn, hasS k l = decide (atS k l < l.length)
 | [] => rfl
 | p :: r => by
   rw [hasS_cons, atS_cons, has_at k r]
   by_cases h : p.1 = k
   ·simp [h]
   ·simp [h]
theorem has_mem {k : Int} {l : List Sn} (h : hasS k l = true) : ∃ q ∈ l, q.1 = k := by simpa [hasS] using h
theorem not_mem {k : Int} {l : List Sn} (h : hasS k l = false) : ∀ q ∈ l, q.1 ≠ k := by simpa [hasS] using h
theorem has_of {k : Int} {l : List Sn} {q : Sn} (h : q ∈ l) (e : q.1 = k) : hasS k l = true := by
 simp only [hasS, List.any_eq_true]; exact ⟨q, h, by simp [e]⟩
theorem at_get {k : Int} {l : List Sn} (h : atS k l < l.length) : (l[atS k l]).1 = k := by
 have h1 : ((l[atS k l]).1 == k) = true := List.findIdx_getElem (p := fun q : Sn => q.1 == k) (xs := l) (w := h)
 simpa using h1
theorem Up.lt_has {p : Sn} {r : List Sn} {k : Int} (h : Up (p :: r)) (hk : hasS k r = true) : p.1 < k := by
 obtain ⟨q, hq, rfl⟩ := has_mem hk
 exact h.head q hq
theorem put_cons (s p : Sn) (r : List Sn) : put s (p :: r) = if s.1 < p.1 then s :: p :: r else if p.1 < s.1 then p :: put s r else s :: r := rfl
theorem put_at (s : Sn) : ∀ {l : List Sn}, Up l → atS s.1 l < l.length → put s l = l.set (atS s.1 l) s
 | [], _, h => absurd h (by simp)
 | p :: r, hu, h => by
   rw [put_cons, atS_cons]
   by_cases e : p.1 = s.1
   ·rw [if_pos e, if_neg (by omega), if_neg (by omega)]; rfl
   ·rw [atS_cons, if_neg e] at h
    have h' : atS s.1 r < r.length := by simpa using h
    have hl := Up.lt_has hu (k := s.1) (by rw [has_at]; simpa using h')
    rw [if_neg e, if_neg (by omega), if_pos hl, put_at s hu.tail h']; rfl
theorem put_past (s : Sn) : ∀ {l : List Sn}, atS s.1 l = l.length → put s l = l.take (pastS s.1 l) ++ s :: l.drop (pastS s.1 l)
 | [], _ => rfl
 | p :: r, h => by
   rw [atS_cons] at h
   have e : p.1 ≠ s.1 := by intro e; rw [if_pos e] at h; simp at h
   rw [if_neg e] at h
   rw [put_cons, pastS_cons]
   by_cases e2 : s.1 < p.1
   ·rw [if_pos e2, if_pos e2]; rfl
   ·rw [if_neg e2, if_neg e2, if_pos (by omega), put_past s (by simpa using h)]; rfl
theorem out_at (k : Int) : ∀ {l : List Sn}, Up l → atS k l < l.length → out k l = l.take (atS k l) ++ l.drop (atS k l + 1)
 | [], _, h => absurd h (by simp)
 | p :: r, hu, h => by
   by_cases e : p.1 = k
   ·rw [atS_cons, if_pos e]
    have h1 : out k (p :: r) = out k r := by unfold out outK; rw [List.filter_cons_of_neg (by simp [e])]
    rw [h1]
    exact outK_none fun q hq => by have : p.1 < q.1 := hu.head q hq; omega
   ·rw [atS_cons, if_neg e] at h ⊢
    have h1 : out k (p :: r) = p :: out k r := by unfold out outK; rw [List.filter_cons_of_pos (by simpa using e)]
    rw [h1, out_at k hu.tail (by simpa using h)]; rfl
theorem out_none {k : Int} {l : List Sn} (h : hasS k l = false) : out k l = l := outK_none (not_mem h)
theorem put_le (s : Sn) (l : List Sn) : (put s l).length ≤ l.length + 1 := (putK_length ltI s.1 s.2 l).1
theorem put_up (s : Sn) {l : List Sn} (hu : Up l) : Up (put s l) := putK_rises ltI triI hu
theorem out_up (k : Int) {l : List Sn} (hu : Up l) : Up (out k l) := outK_rises ltI hu
theorem live_up (k : Int) {l : List Sn} (hu : Up l) : Up (live k l) := List.Pairwise.sublist List.filter_sublist hu
theorem beat1_id (k u : Int) (q : Sn) : (beat1 k u q).1 = q.1 := by unfold beat1; split <;> rfl
theorem beat_up (k u : Int) {l : List Sn} (hu : Up l) : Up (beatS k u l) := List.pairwise_map.2 (hu.imp fun h => by rw [beat1_id, beat1_id]; exact h)
theorem beat_length (k u : Int) (l : List Sn) : (beatS k u l).length = l.length := List.length_map ..
theorem live_length (k : Int) (l : List Sn) : (live k l).length ≤ l.length := List.length_filter_le ..
theorem beat_none {k u : Int} {l : List Sn} (h : hasS k l = false) : beatS k u l = l := by
 unfold beatS
 conv => rhs; rw [← List.map_id l]
 refine List.map_congr_left fun q hq => ?_
 unfold beat1
 rw [if_neg (fun h' => not_mem h q hq h'.1)]; rfl
theorem beat_at (k u : Int) : ∀ {l : List Sn}, Up l → (h : atS k l < l.length) → beatS k u l = l.set (atS k l) (k, (l[atS k l]).2.1, (l[atS k l]).2.2.1, max (l[atS k l]).2.2.2 u)
 | [], _, h => absurd h (by simp)
 | p :: r, hu, h => by
   by_cases e : p.1 = k
   ·have h0 : atS k (p :: r) = 0 := by rw [atS_cons, if_pos e]
    have h1 : beatS k u r = r := beat_none (by
     rw [Bool.eq_false_iff]; intro h'; have := Up.lt_has hu h'; omega)
    have h2 : beatS k u (p :: r) = beat1 k u p :: beatS k u r := rfl
    rw [h2, h1]
    simp only [h0, List.getElem_cons_zero, List.set_cons_zero]
    congr 1
    unfold beat1
    obtain ⟨a, b, c, d⟩ := p
    simp only at e ⊢
    subst e
    split
    ·simp; omega
    ·simp; omega
   ·have h0 : atS k (p :: r) = atS k r + 1 := by rw [atS_cons, if_neg e]
    have h' : atS k r < r.length := by rw [h0] at h; simpa using h
    have h2 : beatS k u (p :: r) = beat1 k u p :: beatS k u r := rfl
    have h3 : beat1 k u p = p := by unfold beat1; rw [if_neg (fun h => e h.1)]
    rw [h2, h3, beat_at k u hu.tail h']
    simp only [h0, List.getElem_cons_succ, List.set_cons_succ]
/-! ### Their cells -/
def cellsS (q : Sn) : List Value := [.int .i64 q.1, .int .i64 q.2.1, .int .i64 q.2.2.1, .int .u64 q.2.2.2]
def flatS (zs : List Sn) : List Value := zs.flatMap cellsS
def V (q : Sn) : Value := .agg #[.int .i64 q.1, .int .i64 q.2.1, .int .i64 q.2.2.1, .int .u64 q.2.2.2]
theorem flatS_cons (q : Sn) (r : List Sn) : flatS (q :: r) = .int .i64 q.1 :: .int .i64 q.2.1 :: .int .i64 q.2.2.1 :: .int .u64 q.2.2.2 :: flatS r := rfl
theorem flatS_app (xs ys : List Sn) : flatS (xs ++ ys) = flatS xs ++ flatS ys := List.flatMap_append
theorem flatS_length (zs : List Sn) : (flatS zs).length = zs.length * 4 := by
 induction zs with
 | nil => rfl
 | cons q r ih => rw [flatS_cons]; simp [ih]; omega
theorem flatS_at : ∀ {zs : List Sn} {i : Nat} {q : Sn}, zs[i]? = some q → (flatS zs)[i * 4]? = some (.int .i64 q.1) ∧ (flatS zs)[i * 4 + 1]? = some (.int .i64 q.2.1) ∧ (flatS zs)[i * 4 + 2]? = some (.int .i64 q.2.2.1) ∧ (flatS zs)[i * 4 + 3]? = some (.int .u64 q.2.2.2)
 | [], _, _, h => by simp at h
 | p :: r, 0, q, h => by simp at h; subst h; simp [flatS_cons]
 | p :: r, i + 1, q, h => by
   have := flatS_at (zs := r) (i := i) (q := q) (by simpa using h)
   rw [flatS_cons, show (i + 1) * 4 = i * 4 + 1 + 1 + 1 + 1 by omega]
   simpa [Nat.add_right_comm _ 1] using this
theorem flatS_one (zs : List Sn) : ∀ u ∈ flatS zs, u.oneCell' = true := by
 intro u hu
 obtain ⟨q, _, hq⟩ := List.mem_flatMap.1 hu
 simp [cellsS] at hq
 rcases hq with rfl | rfl | rfl | rfl <;> rfl
theorem flatS_ne {zs : List Sn} (h : zs ≠ []) : flatS zs ≠ [] := by
 cases zs with
 | nil => exact absurd rfl h
 | cons q r => simp [flatS_cons]
theorem flatS_take : ∀ (zs : List Sn) (i : Nat), flatS (zs.take i) = (flatS zs).take (i * 4)
 | [], i => by simp [flatS]
 | q :: r, 0 => by simp [flatS]
 | q :: r, i + 1 => by
   rw [List.take_succ_cons, flatS_cons, flatS_cons, flatS_take r i, show (i + 1) * 4 = i * 4 + 1 + 1 + 1 + 1 by omega]; rfl
theorem flatS_drop : ∀ (zs : List Sn) (i : Nat), flatS (zs.drop i) = (flatS zs).drop (i * 4)
 | [], i => by simp [flatS]
 | q :: r, 0 => by simp [flatS]
 | q :: r, i + 1 => by
   rw [List.drop_succ_cons, flatS_cons, flatS_drop r i, show (i + 1) * 4 = i * 4 + 1 + 1 + 1 + 1 by omega]; rfl
theorem Seq.ses {w : World} {lo B : Nat} {A : Option Addr} {zs : List Sn} {i : Nat} (h : Seq w lo B A (flatS zs)) (hi : i < zs.length) : ∃ b off, A = some ⟨b, off, none⟩ ∧ lo ≤ b ∧ b < B ∧
  w.cell? ⟨b, off + i * 4, none⟩ = some (.int .i64 zs[i].1) ∧ w.cell? ⟨b, off + i * 4 + 1, none⟩ = some (.int .i64 zs[i].2.1) ∧ w.cell? ⟨b, off + i * 4 + 2, none⟩ = some (.int .i64 zs[i].2.2.1) ∧ w.cell? ⟨b, off + i * 4 + 3, none⟩ = some (.int .u64 zs[i].2.2.2) := by
 obtain ⟨b, off, e, hl, hb, hc⟩ := h (flatS_ne (by intro h0; subst h0; simp at hi))
 obtain ⟨h0, h1, h2, h3⟩ := flatS_at (List.getElem?_eq_getElem hi)
 exact ⟨b, off, e, hl, hb, hc _ _ h0, hc (i * 4 + 1) _ h1, hc (i * 4 + 2) _ h2, hc (i * 4 + 3) _ h3⟩
theorem new_four (w : World) (q : Sn) (t : TypeId) : ∀ (j : Nat) (u : Value), (cellsS q)[j]? = some u → (w.alloc (.cells #[.int .i64 q.1, .int .i64 q.2.1, .int .i64 q.2.2.1, .int .u64 q.2.2.2] t)).cell? ((⟨w.heap.size, 0, none⟩ : Addr).add j) = some u := by
 intro j u hj
 match j, hj with
 | 0, hj => simp [cellsS] at hj; subst hj; simp [Addr.add]
 | 1, hj => simp [cellsS] at hj; subst hj; simp [Addr.add]
 | 2, hj => simp [cellsS] at hj; subst hj; simp [Addr.add]
 | 3, hj => simp [cellsS] at hj; subst hj; simp [Addr.add]
theorem new_fourAt (w : World) (q : Sn) (t : TypeId) {g : Nat} (hg : g = w.heap.size) : ∀ (j : Nat) (u : Value), (cellsS q)[j]? = some u → (w.alloc (.cells #[.int .i64 q.1, .int .i64 q.2.1, .int .i64 q.2.2.1, .int .u64 q.2.2.2] t)).cell? ((⟨g, 0, none⟩ : Addr).add j) = some u := by
 subst hg; exact new_four w q t
theorem four_one (q : Sn) : ∀ u ∈ cellsS q, u.oneCell' = true := by
 intro u hu; simp [cellsS] at hu; rcases hu with rfl | rfl | rfl | rfl <;> rfl
theorem flatS_snoc (zs : List Sn) (q : Sn) : flatS (zs ++ [q]) = flatS zs ++ cellsS q := by rw [flatS_app]; rfl
theorem flatS_set (zs : List Sn) (i : Nat) (q : Sn) (h : i < zs.length) :
  ((((flatS zs).toArray.setIfInBounds (i * 4) (.int .i64 q.1)).setIfInBounds (i * 4 + 1) (.int .i64 q.2.1)).setIfInBounds (i * 4 + 2) (.int .i64 q.2.2.1)).setIfInBounds (i * 4 + 3) (.int .u64 q.2.2.2) = (flatS (zs.set i q)).toArray := by
 simp only [List.setIfInBounds_toArray]
 congr 1
 induction zs generalizing i with
 | nil => simp at h
 | cons p r ih =>
   cases i with
   | zero => simp [flatS_cons]
   | succ i =>
     have := ih i (by simpa using h)
     rw [List.set_cons_succ, flatS_cons, flatS_cons, ← this, show (i + 1) * 4 = i * 4 + 1 + 1 + 1 + 1 by omega]
     simp [Nat.add_right_comm _ 1]
end Go.Law
