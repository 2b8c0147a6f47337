/-
  Trees as in Trees, whose values take four cells. General over programs. (Made by mktrees4.py.)
-/
import Derived.Test.YtdkjcheannehhaaGreatTrees
import Derived.Test.YtdkjcheannehhaaGreatSessL
namespace Go.Law
open Go.RowKit
/-- an entry's four cells: where its sessions lie, how many, their room; what was told last; and which sessions they are (not a cell) -/
structure EnV where
  A : Option Addr
  n : Nat
  c : Nat
  st : Int
  pr : Int
  lv : Int
  ss : List Sn
abbrev EnV.e0 (v : EnV) : Value := .slice v.A v.n v.c
abbrev EnV.e1 (v : EnV) : Value := .int .i64 v.st
abbrev EnV.e2 (v : EnV) : Value := .int .i64 v.pr
abbrev EnV.e3 (v : EnV) : Value := .int .i64 v.lv
abbrev EnV.zero : EnV := ⟨none, 0, 0, 0, 0, 0, []⟩
abbrev EnV.val (v : EnV) : Value := .agg #[.slice v.A v.n v.c, .int .i64 v.st, .int .i64 v.pr, .int .i64 v.lv]
/-! ### A tree in memory -/
/-- at p there lies, in blocks below B, a tree that holds these pairs, from left to right -/
inductive Tree4 (t : TypeId) {κ ν : Type} (ek : κ → Value) (e0 e1 e2 e3 : ν → Value) (w : World) (B : Nat) : Option Addr → List (κ × ν) → Prop
  | nil : Tree4 t ek e0 e1 e2 e3 w B none []
  | node {b : Nat} {l r : Option Addr} {xs ys : List (κ × ν)} {k : κ} {v : ν} : b < B → Is w b t #[ek k, e0 v, e1 v, e2 v, e3 v, .pointer l, .pointer r, .int .i64 ((xs ++ (k, v) :: ys).length : Int)] → Tree4 t ek e0 e1 e2 e3 w B l xs → Tree4 t ek e0 e1 e2 e3 w B r ys →
      Tree4 t ek e0 e1 e2 e3 w B (some ⟨b, 0, none⟩) (xs ++ (k, v) :: ys)
section
variable {t : TypeId} {κ ν : Type} {ek : κ → Value} {e0 e1 e2 e3 : ν → Value} {w w' : World} {B B' : Nat} {p : Option Addr} {xs : List (κ × ν)}
theorem Tree4.under (h : Tree4 t ek e0 e1 e2 e3 w B p xs) (hb : Below B w w') : Tree4 t ek e0 e1 e2 e3 w' B p xs := by
  induction h with
  | nil => exact .nil
  | node hB hi _ _ ihl ihr => exact .node hB (hi.below hb hB) ihl ihr
theorem Tree4.wide (h : Tree4 t ek e0 e1 e2 e3 w B p xs) (hB : B ≤ B') : Tree4 t ek e0 e1 e2 e3 w B' p xs := by
  induction h with
  | nil => exact .nil
  | node hb hi _ _ ihl ihr => exact .node (by omega) hi ihl ihr
theorem Tree4.of_nil (h : Tree4 t ek e0 e1 e2 e3 w B none xs) : xs = [] := by cases h; rfl
theorem Tree4.is_nil (h : Tree4 t ek e0 e1 e2 e3 w B p []) : p = none := by
  generalize hx : ([] : List (κ × ν)) = zs at h
  cases h with
  | nil => rfl
  | node _ _ _ _ => simp at hx
/-- what a node says -/
theorem Tree4.of_some {a : Addr} (h : Tree4 t ek e0 e1 e2 e3 w B (some a) xs) : ∃ (b : Nat) (l r : Option Addr) (ls rs : List (κ × ν)) (k : κ) (v : ν), a = ⟨b, 0, none⟩ ∧ xs = ls ++ (k, v) :: rs ∧ b < B ∧
    Is w b t #[ek k, e0 v, e1 v, e2 v, e3 v, .pointer l, .pointer r, .int .i64 ((ls ++ (k, v) :: rs).length : Int)] ∧ Tree4 t ek e0 e1 e2 e3 w B l ls ∧ Tree4 t ek e0 e1 e2 e3 w B r rs := by
  cases h with
  | node hb hi hl hr => exact ⟨_, _, _, _, _, _, _, rfl, rfl, hb, hi, hl, hr⟩
/-- a tree that holds something is a node -/
theorem Tree4.full (h : Tree4 t ek e0 e1 e2 e3 w B p xs) (hx : 0 < xs.length) : ∃ (b : Nat) (l r : Option Addr) (ls rs : List (κ × ν)) (k : κ) (v : ν), p = some ⟨b, 0, none⟩ ∧ xs = ls ++ (k, v) :: rs ∧ b < B ∧
    Is w b t #[ek k, e0 v, e1 v, e2 v, e3 v, .pointer l, .pointer r, .int .i64 ((ls ++ (k, v) :: rs).length : Int)] ∧ Tree4 t ek e0 e1 e2 e3 w B l ls ∧ Tree4 t ek e0 e1 e2 e3 w B r rs := by
  cases h with
  | nil => simp at hx
  | node hb hi hl hr => exact ⟨_, _, _, _, _, _, _, rfl, rfl, hb, hi, hl, hr⟩
/-- how many keys a tree at a value says it holds -/
def sizeAt4 (w : World) : Value → Nat
  | .pointer (some a) => match w.cell? ⟨a.block, 7, none⟩ with
    | some (.int _ n) => n.toNat
    | _ => 0
  | _ => 0
theorem Tree4.size (h : Tree4 t ek e0 e1 e2 e3 w B p xs) : sizeAt4 w (.pointer p) = xs.length := by
  cases h with
  | nil => rfl
  | node hb hi hl hr =>
    have := hi.cell 7
    simp only [sizeAt4]
    rw [this]
    simp
    omega
/-- a new node -/
theorem Tree4.new {l r : Option Addr} {ls rs : List (κ × ν)} {k : κ} {v : ν} {g : Nat} {n : Int} (hl : Tree4 t ek e0 e1 e2 e3 w w.heap.size l ls) (hr : Tree4 t ek e0 e1 e2 e3 w w.heap.size r rs) (hg : g = w.heap.size) (hn : n = ((ls ++ (k, v) :: rs).length : Int)) :
    Tree4 t ek e0 e1 e2 e3 (w.alloc (.cells #[ek k, e0 v, e1 v, e2 v, e3 v, .pointer l, .pointer r, .int .i64 n] t)) (w.alloc (.cells #[ek k, e0 v, e1 v, e2 v, e3 v, .pointer l, .pointer r, .int .i64 n] t)).heap.size (some ⟨g, 0, none⟩) (ls ++ (k, v) :: rs) := by
  subst hg hn
  have hb := (Below.refl w.heap.size w).alloc (Nat.le_refl _) (.cells #[ek k, e0 v, e1 v, e2 v, e3 v, .pointer l, .pointer r, .int .i64 ((ls ++ (k, v) :: rs).length : Int)] t)
  exact .node (by simp) (Is.new _ _ _ rfl) ((hl.under hb).wide (by simp)) ((hr.under hb).wide (by simp))
theorem Tree4.keeps (h : Tree4 t ek e0 e1 e2 e3 w B p xs) (hb : Keeps t w w') : Tree4 t ek e0 e1 e2 e3 w' B p xs := by
  induction h with
  | nil => exact .nil
  | node hB hi _ _ ihl ihr => exact .node hB (hb.is hi) ihl ihr
/-- a store into a block of another type leaves a tree as it was -/
theorem Tree4.far (h : Tree4 t ek e0 e1 e2 e3 w B p xs) {g i : Nat} {t' : TypeId} {cs : Array Value} (hg : Is w g t' cs) (ht : t ≠ t') (u : Value) : Tree4 t ek e0 e1 e2 e3 (w.setCell ⟨g, i, none⟩ u) B p xs := by
  induction h with
  | nil => exact .nil
  | node hB hi _ _ ihl ihr =>
    refine .node hB (hi.far (p := ⟨g, i, none⟩) ?_ u) ihl ihr
    intro e
    subst e
    unfold Is at hi hg
    rw [hi] at hg
    injection hg with hg
    injection hg with _ h2
    exact ht h2
theorem Tree4.drewN (h : Tree4 t ek e0 e1 e2 e3 w B p xs) (n : Nat) : Tree4 t ek e0 e1 e2 e3 (w.drewN n) B p xs := by
  induction h with
  | nil => exact .nil
  | node hB hi _ _ ihl ihr => exact .node hB (hi.drewN n) ihl ihr
end
end Go.Law
