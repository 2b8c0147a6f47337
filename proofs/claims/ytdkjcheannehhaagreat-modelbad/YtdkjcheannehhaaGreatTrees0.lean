/-
  Trees as in Trees, whose values take no cell. General over programs. (Made by mkomap0.py.)
-/
import Derived.Test.YtdkjcheannehhaaGreatTrees
namespace Go.Law
open Go.RowKit
/-! ### A tree in memory -/
/-- at p there lies, in blocks below B, a tree that holds these pairs, from left to right -/
inductive Tree0 (t : TypeId) {κ ν : Type} (ek : κ → Value) (w : World) (B : Nat) : Option Addr → List (κ × ν) → Prop
  | nil : Tree0 t ek w B none []
  | node {b : Nat} {l r : Option Addr} {xs ys : List (κ × ν)} {k : κ} {v : ν} : b < B → Is w b t #[ek k, .pointer l, .pointer r, .int .i64 ((xs ++ (k, v) :: ys).length : Int)] → Tree0 t ek w B l xs → Tree0 t ek w B r ys →
      Tree0 t ek w B (some ⟨b, 0, none⟩) (xs ++ (k, v) :: ys)
section
variable {t : TypeId} {κ ν : Type} {ek : κ → Value} {w w' : World} {B B' : Nat} {p : Option Addr} {xs : List (κ × ν)}
theorem Tree0.under (h : Tree0 t ek w B p xs) (hb : Below B w w') : Tree0 t ek w' B p xs := by
  induction h with
  | nil => exact .nil
  | node hB hi _ _ ihl ihr => exact .node hB (hi.below hb hB) ihl ihr
theorem Tree0.wide (h : Tree0 t ek w B p xs) (hB : B ≤ B') : Tree0 t ek w B' p xs := by
  induction h with
  | nil => exact .nil
  | node hb hi _ _ ihl ihr => exact .node (by omega) hi ihl ihr
theorem Tree0.of_nil (h : Tree0 t ek w B none xs) : xs = [] := by cases h; rfl
theorem Tree0.is_nil (h : Tree0 t ek w B p ([] : List (κ × ν))) : p = none := by
  generalize hx : ([] : List (κ × ν)) = zs at h
  cases h with
  | nil => rfl
  | node _ _ _ _ => simp at hx
/-- what a node says -/
theorem Tree0.of_some {a : Addr} (h : Tree0 t ek w B (some a) xs) : ∃ (b : Nat) (l r : Option Addr) (ls rs : List (κ × ν)) (k : κ) (v : ν), a = ⟨b, 0, none⟩ ∧ xs = ls ++ (k, v) :: rs ∧ b < B ∧
    Is w b t #[ek k, .pointer l, .pointer r, .int .i64 ((ls ++ (k, v) :: rs).length : Int)] ∧ Tree0 t ek w B l ls ∧ Tree0 t ek w B r rs := by
  cases h with
  | node hb hi hl hr => exact ⟨_, _, _, _, _, _, _, rfl, rfl, hb, hi, hl, hr⟩
/-- a tree that holds something is a node -/
theorem Tree0.full (h : Tree0 t ek w B p xs) (hx : 0 < xs.length) : ∃ (b : Nat) (l r : Option Addr) (ls rs : List (κ × ν)) (k : κ) (v : ν), p = some ⟨b, 0, none⟩ ∧ xs = ls ++ (k, v) :: rs ∧ b < B ∧
    Is w b t #[ek k, .pointer l, .pointer r, .int .i64 ((ls ++ (k, v) :: rs).length : Int)] ∧ Tree0 t ek w B l ls ∧ Tree0 t ek w B r rs := by
  cases h with
  | nil => simp at hx
  | node hb hi hl hr => exact ⟨_, _, _, _, _, _, _, rfl, rfl, hb, hi, hl, hr⟩
/-- how many keys a tree at a value says it holds -/
def sizeAt0 (w : World) : Value → Nat
  | .pointer (some a) => match w.cell? ⟨a.block, 3, none⟩ with
    | some (.int _ n) => n.toNat
    | _ => 0
  | _ => 0
theorem Tree0.size (h : Tree0 t ek w B p xs) : sizeAt0 w (.pointer p) = xs.length := by
  cases h with
  | nil => rfl
  | node hb hi hl hr =>
    have := hi.cell 3
    simp only [sizeAt0]
    rw [this]
    simp
    omega
/-- a new node -/
theorem Tree0.new {l r : Option Addr} {ls rs : List (κ × ν)} {k : κ} {v : ν} {g : Nat} {n : Int} (hl : Tree0 t ek w w.heap.size l ls) (hr : Tree0 t ek w w.heap.size r rs) (hg : g = w.heap.size) (hn : n = ((ls ++ (k, v) :: rs).length : Int)) :
    Tree0 t ek (w.alloc (.cells #[ek k, .pointer l, .pointer r, .int .i64 n] t)) (w.alloc (.cells #[ek k, .pointer l, .pointer r, .int .i64 n] t)).heap.size (some ⟨g, 0, none⟩) (ls ++ (k, v) :: rs) := by
  subst hg hn
  have hb := (Below.refl w.heap.size w).alloc (Nat.le_refl _) (.cells #[ek k, .pointer l, .pointer r, .int .i64 ((ls ++ (k, v) :: rs).length : Int)] t)
  exact .node (by simp) (Is.new _ _ _ rfl) ((hl.under hb).wide (by simp)) ((hr.under hb).wide (by simp))
theorem Tree0.keeps (h : Tree0 t ek w B p xs) (hb : Keeps t w w') : Tree0 t ek w' B p xs := by
  induction h with
  | nil => exact .nil
  | node hB hi _ _ ihl ihr => exact .node hB (hb.is hi) ihl ihr
/-- a store into a block of another type leaves a tree as it was -/
theorem Tree0.far (h : Tree0 t ek w B p xs) {g i : Nat} {t' : TypeId} {cs : Array Value} (hg : Is w g t' cs) (ht : t ≠ t') (u : Value) : Tree0 t ek (w.setCell ⟨g, i, none⟩ u) B p xs := by
  induction h with
  | nil => exact .nil
  | node hB hi _ _ ihl ihr =>
    refine .node hB (hi.far (p := ⟨g, i, none⟩) ?_ u) ihl ihr
    intro e
    subst e
    unfold Is at hi hg
    rw [hi] at hg
    injection hg with hg
    injection hg with _ h2
    exact ht h2
theorem Tree0.drewN (h : Tree0 t ek w B p xs) (n : Nat) : Tree0 t ek (w.drewN n) B p xs := by
  induction h with
  | nil => exact .nil
  | node hB hi _ _ ihl ihr => exact .node hB (hi.drewN n) ihl ihr
end
end Go.Law
