/-
  Lists of keys and values that rise, and a tree in memory whose nodes never turn: a node is a block of five cells (key, value, left, right, how many). General over programs.
-/
import Derived.Test.YtdfonlbbohnfhaaDoorSlices
namespace Go.Law
open Go.RowKit

/-! ### Lists of pairs that rise -/
/-- a strict order of which any two are less, the same, or more -/
structure Tri {κ : Type} (lt : κ → κ → Prop) : Prop where
  irr : ∀ a, ¬ lt a a
  tr : ∀ {a b c}, lt a b → lt b c → lt a c
  tri : ∀ a b, lt a b ∨ a = b ∨ lt b a
theorem Tri.asym {κ : Type} {lt : κ → κ → Prop} (h : Tri lt) {a b : κ} (hab : lt a b) : ¬ lt b a := fun hba => h.irr a (h.tr hab hba)
theorem Tri.ne {κ : Type} {lt : κ → κ → Prop} (h : Tri lt) {a b : κ} (hab : lt a b) : a ≠ b := fun e => h.irr b (e ▸ hab)
section
variable {κ ν : Type} (lt : κ → κ → Prop)
def Rises (xs : List (κ × ν)) : Prop := xs.Pairwise fun a b => lt a.1 b.1
variable {lt} {xs ys : List (κ × ν)} {a : κ} {b : ν}
theorem Rises.left (h : Rises lt (xs ++ (a, b) :: ys)) : Rises lt xs := (List.pairwise_append.1 h).1
theorem Rises.right (h : Rises lt (xs ++ (a, b) :: ys)) : Rises lt ys := (List.pairwise_cons.1 (List.pairwise_append.1 h).2.1).2
theorem Rises.less (h : Rises lt (xs ++ (a, b) :: ys)) : ∀ p ∈ xs, lt p.1 a := fun p hp => (List.pairwise_append.1 h).2.2 p hp (a, b) (by simp)
theorem Rises.more (h : Rises lt (xs ++ (a, b) :: ys)) : ∀ p ∈ ys, lt a p.1 := fun p hp => (List.pairwise_cons.1 (List.pairwise_append.1 h).2.1).1 p hp
theorem Rises.mk (hx : Rises lt xs) (hy : Rises lt ys) (h1 : ∀ p ∈ xs, lt p.1 a) (h2 : ∀ p ∈ ys, lt a p.1) (ht : Tri lt) : Rises lt (xs ++ (a, b) :: ys) := by
  refine List.pairwise_append.2 ⟨hx, List.pairwise_cons.2 ⟨fun p hp => h2 p hp, hy⟩, ?_⟩
  intro p hp q hq
  rcases List.mem_cons.1 hq with rfl | hq
  · exact h1 p hp
  · exact ht.tr (h1 p hp) (h2 q hq)
theorem Rises.tail {p : κ × ν} (h : Rises lt (p :: xs)) : Rises lt xs := (List.pairwise_cons.1 h).2
theorem Rises.head {p : κ × ν} (h : Rises lt (p :: xs)) : ∀ q ∈ xs, lt p.1 q.1 := (List.pairwise_cons.1 h).1
theorem Rises.nil : Rises lt ([] : List (κ × ν)) := List.Pairwise.nil
end
section
variable {κ ν : Type} (lt : κ → κ → Prop) [DecidableRel lt] [DecidableEq κ]
/-- with a key's value -/
def putK (k : κ) (v : ν) : List (κ × ν) → List (κ × ν)
  | [] => [(k, v)]
  | p :: r => if lt k p.1 then (k, v) :: p :: r else if lt p.1 k then p :: putK k v r else (k, v) :: r
omit [DecidableEq κ] in
theorem putK_mem {k : κ} {v : ν} : ∀ {xs : List (κ × ν)} {q : κ × ν}, q ∈ putK lt k v xs → q = (k, v) ∨ q ∈ xs
  | [], q, h => by simp [putK] at h; exact .inl h
  | p :: r, q, h => by
    unfold putK at h
    split at h
    · rcases List.mem_cons.1 h with h | h
      · exact .inl h
      · exact .inr h
    · split at h
      · rcases List.mem_cons.1 h with h | h
        · exact .inr (by simp [h])
        · rcases putK_mem h with h | h
          · exact .inl h
          · exact .inr (by simp [h])
      · rcases List.mem_cons.1 h with h | h
        · exact .inl h
        · exact .inr (by simp [h])
omit [DecidableEq κ] in
theorem putK_rises (ht : Tri lt) {k : κ} {v : ν} : ∀ {xs : List (κ × ν)}, Rises lt xs → Rises lt (putK lt k v xs)
  | [], _ => List.pairwise_singleton _ _
  | p :: r, h => by
    unfold putK
    split
    · rename_i h1
      refine List.pairwise_cons.2 ⟨fun q hq => ?_, h⟩
      rcases List.mem_cons.1 hq with rfl | hq
      · exact h1
      · exact ht.tr h1 (h.head q hq)
    · rename_i h1
      split
      · rename_i h2
        refine List.pairwise_cons.2 ⟨fun q hq => ?_, putK_rises ht h.tail⟩
        rcases putK_mem lt hq with rfl | hq
        · exact h2
        · exact h.head q hq
      · rename_i h2
        have e : k = p.1 := by rcases ht.tri k p.1 with e | e | e; exact absurd e h1; exact e; exact absurd e h2
        exact List.pairwise_cons.2 ⟨fun q hq => by rw [e]; exact h.head q hq, h.tail⟩
omit [DecidableEq κ] in
theorem putK_length (k : κ) (v : ν) : ∀ xs : List (κ × ν), (putK lt k v xs).length ≤ xs.length + 1 ∧ xs.length ≤ (putK lt k v xs).length
  | [] => by simp [putK]
  | p :: r => by
    have := putK_length k v r
    unfold putK
    split
    · simp
    · split <;> simp <;> omega
omit [DecidableEq κ] in
theorem putK_left {k a : κ} {v b : ν} {ys : List (κ × ν)} (h : lt k a) : ∀ xs : List (κ × ν), putK lt k v (xs ++ (a, b) :: ys) = putK lt k v xs ++ (a, b) :: ys
  | [] => by simp [putK, h]
  | p :: r => by
    have ih := putK_left h (v := v) (b := b) (ys := ys) r
    simp only [List.cons_append, putK]
    split
    · rfl
    · split
      · rw [ih]; rfl
      · rfl
omit [DecidableEq κ] in
theorem putK_right (ht : Tri lt) {k a : κ} {v b : ν} {ys : List (κ × ν)} (h : lt a k) : ∀ xs : List (κ × ν), Rises lt (xs ++ (a, b) :: ys) → putK lt k v (xs ++ (a, b) :: ys) = xs ++ (a, b) :: putK lt k v ys
  | [], _ => by simp [putK, h, ht.asym h]
  | p :: r, hr => by
    have ih := putK_right ht h (v := v) (b := b) (ys := ys) r hr.tail
    have h1 : lt p.1 k := ht.tr (hr.less p (by simp)) h
    simp only [List.cons_append, putK, if_neg (ht.asym h1), if_pos h1, ih]
omit [DecidableEq κ] in
theorem putK_same (ht : Tri lt) {a : κ} {v b : ν} {ys : List (κ × ν)} : ∀ xs : List (κ × ν), Rises lt (xs ++ (a, b) :: ys) → putK lt a v (xs ++ (a, b) :: ys) = xs ++ (a, v) :: ys
  | [], _ => by simp [putK, ht.irr]
  | p :: r, hr => by
    have ih := putK_same ht (v := v) (b := b) (ys := ys) r hr.tail
    have h1 : lt p.1 a := hr.less p (by simp)
    simp only [List.cons_append, putK, if_neg (ht.asym h1), if_pos h1, ih]

/-- without a key -/
def outK (k : κ) (xs : List (κ × ν)) : List (κ × ν) := xs.filter fun p => decide (p.1 ≠ k)
theorem outK_none {k : κ} {xs : List (κ × ν)} (h : ∀ p ∈ xs, p.1 ≠ k) : outK k xs = xs := List.filter_eq_self.2 fun p hp => by simpa using h p hp
theorem outK_app (k : κ) (xs ys : List (κ × ν)) : outK k (xs ++ ys) = outK k xs ++ outK k ys := List.filter_append ..
omit [DecidableRel lt] in
theorem outK_rises {k : κ} {xs : List (κ × ν)} (h : Rises lt xs) : Rises lt (outK k xs) := List.Pairwise.sublist (List.filter_sublist) h
theorem outK_length (k : κ) (xs : List (κ × ν)) : (outK k xs).length ≤ xs.length := List.length_filter_le ..
omit [DecidableRel lt] in
theorem outK_left (ht : Tri lt) {k a : κ} {b : ν} {xs ys : List (κ × ν)} (h : lt k a) (hr : Rises lt (xs ++ (a, b) :: ys)) : outK k (xs ++ (a, b) :: ys) = outK k xs ++ (a, b) :: ys := by
  rw [outK_app]
  congr 1
  refine outK_none fun p hp => ?_
  rcases List.mem_cons.1 hp with rfl | hp
  · exact (ht.ne h).symm
  · exact (ht.ne (ht.tr h (hr.more p hp))).symm
omit [DecidableRel lt] in
theorem outK_right (ht : Tri lt) {k a : κ} {b : ν} {xs ys : List (κ × ν)} (h : lt a k) (hr : Rises lt (xs ++ (a, b) :: ys)) : outK k (xs ++ (a, b) :: ys) = xs ++ (a, b) :: outK k ys := by
  have e : outK k ((a, b) :: ys) = (a, b) :: outK k ys := List.filter_cons_of_pos (by simpa using ht.ne h)
  rw [outK_app, e]
  congr 1
  exact outK_none fun p hp => ht.ne (ht.tr (hr.less p hp) h)
omit [DecidableRel lt] in
theorem outK_same (ht : Tri lt) {a : κ} {b : ν} {xs ys : List (κ × ν)} (hr : Rises lt (xs ++ (a, b) :: ys)) : outK a (xs ++ (a, b) :: ys) = xs ++ ys := by
  have e : outK a ((a, b) :: ys) = outK a ys := List.filter_cons_of_neg (by simp)
  rw [outK_app, e, outK_none fun p hp => ht.ne (hr.less p hp), outK_none fun p hp => (ht.ne (hr.more p hp)).symm]

/-- a key's value -/
def getK (k : κ) : List (κ × ν) → Option ν
  | [] => none
  | p :: r => if p.1 = k then some p.2 else getK k r
theorem getK_none {k : κ} : ∀ {xs : List (κ × ν)}, (∀ p ∈ xs, p.1 ≠ k) → getK k xs = none
  | [], _ => rfl
  | p :: r, h => by rw [getK, if_neg (h p (by simp)), getK_none fun q hq => h q (by simp [hq])]
theorem getK_app {k : κ} {ys : List (κ × ν)} : ∀ {xs : List (κ × ν)}, (∀ p ∈ xs, p.1 ≠ k) → getK k (xs ++ ys) = getK k ys
  | [], _ => rfl
  | p :: r, h => by rw [List.cons_append, getK, if_neg (h p (by simp)), getK_app fun q hq => h q (by simp [hq])]
omit [DecidableRel lt] in
theorem getK_left (ht : Tri lt) {k a : κ} {b : ν} {ys : List (κ × ν)} (h : lt k a) : ∀ {xs : List (κ × ν)}, Rises lt (xs ++ (a, b) :: ys) → getK k (xs ++ (a, b) :: ys) = getK k xs
  | [], hr => getK_none fun p hp => by
    rcases List.mem_cons.1 hp with rfl | hp
    · exact (ht.ne h).symm
    · exact (ht.ne (ht.tr h (hr.more p hp))).symm
  | p :: r, hr => by rw [List.cons_append, getK, getK, getK_left ht h hr.tail]
omit [DecidableRel lt] in
theorem getK_right (ht : Tri lt) {k a : κ} {b : ν} {xs ys : List (κ × ν)} (h : lt a k) (hr : Rises lt (xs ++ (a, b) :: ys)) : getK k (xs ++ (a, b) :: ys) = getK k ys := by
  rw [getK_app fun p hp => ht.ne (ht.tr (hr.less p hp) h), getK, if_neg (ht.ne h)]
omit [DecidableRel lt] in
theorem getK_same (ht : Tri lt) {a : κ} {b : ν} {xs ys : List (κ × ν)} (hr : Rises lt (xs ++ (a, b) :: ys)) : getK a (xs ++ (a, b) :: ys) = some b := by
  rw [getK_app fun p hp => ht.ne (hr.less p hp), getK, if_pos rfl]
end

/-! ### A tree in memory -/
/-- at p there lies, in blocks below B, a tree that holds these pairs, from left to right -/
inductive Tree (t : TypeId) {κ ν : Type} (ek : κ → Value) (ev : ν → Value) (w : World) (B : Nat) : Option Addr → List (κ × ν) → Prop
  | nil : Tree t ek ev w B none []
  | node {b : Nat} {l r : Option Addr} {xs ys : List (κ × ν)} {k : κ} {v : ν} : b < B → Is w b t #[ek k, ev v, .pointer l, .pointer r, .int .i64 ((xs ++ (k, v) :: ys).length : Int)] → Tree t ek ev w B l xs → Tree t ek ev w B r ys →
      Tree t ek ev w B (some ⟨b, 0, none⟩) (xs ++ (k, v) :: ys)
section
variable {t : TypeId} {κ ν : Type} {ek : κ → Value} {ev : ν → Value} {w w' : World} {B B' : Nat} {p : Option Addr} {xs : List (κ × ν)}
theorem Tree.under (h : Tree t ek ev w B p xs) (hb : Below B w w') : Tree t ek ev w' B p xs := by
  induction h with
  | nil => exact .nil
  | node hB hi _ _ ihl ihr => exact .node hB (hi.below hb hB) ihl ihr
theorem Tree.wide (h : Tree t ek ev w B p xs) (hB : B ≤ B') : Tree t ek ev w B' p xs := by
  induction h with
  | nil => exact .nil
  | node hb hi _ _ ihl ihr => exact .node (by omega) hi ihl ihr
theorem Tree.of_nil (h : Tree t ek ev w B none xs) : xs = [] := by cases h; rfl
theorem Tree.is_nil (h : Tree t ek ev w B p []) : p = none := by
  generalize hx : ([] : List (κ × ν)) = zs at h
  cases h with
  | nil => rfl
  | node _ _ _ _ => simp at hx
/-- what a node says -/
theorem Tree.of_some {a : Addr} (h : Tree t ek ev w B (some a) xs) : ∃ (b : Nat) (l r : Option Addr) (ls rs : List (κ × ν)) (k : κ) (v : ν), a = ⟨b, 0, none⟩ ∧ xs = ls ++ (k, v) :: rs ∧ b < B ∧
    Is w b t #[ek k, ev v, .pointer l, .pointer r, .int .i64 ((ls ++ (k, v) :: rs).length : Int)] ∧ Tree t ek ev w B l ls ∧ Tree t ek ev w B r rs := by
  cases h with
  | node hb hi hl hr => exact ⟨_, _, _, _, _, _, _, rfl, rfl, hb, hi, hl, hr⟩
/-- a tree that holds something is a node -/
theorem Tree.full (h : Tree t ek ev w B p xs) (hx : 0 < xs.length) : ∃ (b : Nat) (l r : Option Addr) (ls rs : List (κ × ν)) (k : κ) (v : ν), p = some ⟨b, 0, none⟩ ∧ xs = ls ++ (k, v) :: rs ∧ b < B ∧
    Is w b t #[ek k, ev v, .pointer l, .pointer r, .int .i64 ((ls ++ (k, v) :: rs).length : Int)] ∧ Tree t ek ev w B l ls ∧ Tree t ek ev w B r rs := by
  cases h with
  | nil => simp at hx
  | node hb hi hl hr => exact ⟨_, _, _, _, _, _, _, rfl, rfl, hb, hi, hl, hr⟩
/-- how many keys a tree at a value says it holds -/
def sizeAt (w : World) : Value → Nat
  | .pointer (some a) => match w.cell? ⟨a.block, 4, none⟩ with
    | some (.int _ n) => n.toNat
    | _ => 0
  | _ => 0
theorem Tree.size (h : Tree t ek ev w B p xs) : sizeAt w (.pointer p) = xs.length := by
  cases h with
  | nil => rfl
  | node hb hi hl hr =>
    have := hi.cell 4
    simp only [sizeAt]
    rw [this]
    simp
    omega
/-- a new node -/
theorem Tree.new {l r : Option Addr} {ls rs : List (κ × ν)} {k : κ} {v : ν} {g : Nat} {n : Int} (hl : Tree t ek ev w w.heap.size l ls) (hr : Tree t ek ev w w.heap.size r rs) (hg : g = w.heap.size) (hn : n = ((ls ++ (k, v) :: rs).length : Int)) :
    Tree t ek ev (w.alloc (.cells #[ek k, ev v, .pointer l, .pointer r, .int .i64 n] t)) (w.alloc (.cells #[ek k, ev v, .pointer l, .pointer r, .int .i64 n] t)).heap.size (some ⟨g, 0, none⟩) (ls ++ (k, v) :: rs) := by
  subst hg hn
  have hb := (Below.refl w.heap.size w).alloc (Nat.le_refl _) (.cells #[ek k, ev v, .pointer l, .pointer r, .int .i64 ((ls ++ (k, v) :: rs).length : Int)] t)
  exact .node (by simp) (Is.new _ _ _ rfl) ((hl.under hb).wide (by simp)) ((hr.under hb).wide (by simp))
/-- all blocks of type t lie as they lay -/
structure Keeps (t : TypeId) (w w' : World) : Prop where
  size : w.heap.size ≤ w'.heap.size
  is : ∀ {b cs}, Is w b t cs → Is w' b t cs
theorem Keeps.refl (t : TypeId) (w : World) : Keeps t w w := ⟨Nat.le_refl _, fun h => h⟩
theorem Keeps.trans {w'' : World} (h : Keeps t w w') (h' : Keeps t w' w'') : Keeps t w w'' := ⟨Nat.le_trans h.size h'.size, fun hi => h'.is (h.is hi)⟩
theorem Keeps.drewN (t : TypeId) (w : World) (n : Nat) : Keeps t w (w.drewN n) := ⟨Nat.le_refl _, fun h => h⟩
theorem Keeps.of_below (hb : Below w.heap.size w w') : Keeps t w w' := ⟨hb.size, fun h => h.below hb h.lt⟩
theorem Is.type_ne {t t' : TypeId} {g b : Nat} {cs cs' : Array Value} (hi : Is w b t cs) (hg : Is w g t' cs') (ht : t ≠ t') : b ≠ g := by
  intro e
  subst e
  unfold Is at hi hg
  rw [hi] at hg
  injection hg with hg
  injection hg with _ h2
  exact ht h2
theorem Keeps.store {g i : Nat} {t' : TypeId} {cs : Array Value} (hg : Is w g t' cs) (ht : t ≠ t') (u : Value) : Keeps t w (w.setCell ⟨g, i, none⟩ u) :=
  ⟨by simp, fun hi => hi.far (p := ⟨g, i, none⟩) (hi.type_ne hg ht) u⟩
theorem Keeps.alloc {t : TypeId} {w : World} (o : Obj) : Keeps t w (w.alloc o) := Keeps.of_below ((Below.refl _ w).alloc (Nat.le_refl _) o)
/-- an append to a row of another type -/
theorem Keeps.grown {t e : TypeId} {w w' : World} {base size n : Nat} {v : Value} {xs : List Value} (h : w.ownsRow base e size v n xs) (hg : w.grownBy w' v.ownBlock) (ht : e ≠ t) : Keeps t w w' :=
  ⟨hg.size, fun hi => (hg.block _ hi.lt fun hk => own_ne h hi ht hk.symm).trans hi⟩
theorem Tree.keeps (h : Tree t ek ev w B p xs) (hb : Keeps t w w') : Tree t ek ev w' B p xs := by
  induction h with
  | nil => exact .nil
  | node hB hi _ _ ihl ihr => exact .node hB (hb.is hi) ihl ihr
/-- a store into a block of another type leaves a tree as it was -/
theorem Tree.far (h : Tree t ek ev w B p xs) {g i : Nat} {t' : TypeId} {cs : Array Value} (hg : Is w g t' cs) (ht : t ≠ t') (u : Value) : Tree t ek ev (w.setCell ⟨g, i, none⟩ u) B p xs := by
  induction h with
  | nil => exact .nil
  | node hB hi _ _ ihl ihr =>
    refine .node hB (hi.far (p := ⟨g, i, none⟩) ?_ u) ihl ihr
    intro e
    subst e
    unfold Is at hi hg
    rw [hi] at hg
    injection hg with hg
    injection hg with _ h2
    exact ht h2
theorem Tree.drewN (h : Tree t ek ev w B p xs) (n : Nat) : Tree t ek ev (w.drewN n) B p xs := by
  induction h with
  | nil => exact .nil
  | node hB hi _ _ ihl ihr => exact .node hB (hi.drewN n) ihl ihr
end
end Go.Law
