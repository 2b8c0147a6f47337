/-
  Trees as in Trees, whose values take four cells. General over programs. (Made by mktrees4.py.)
-/
import Derived.Test.YtohdlnefgieenaaGreatJ1
import Derived.Test.YtohdlnefgieenaaGreatJ0
import Derived.ChangeSlices
import Derived.Deep.SlicePairs
namespace Go.Law
open Go.RowKit
structure EnV where
 A : Option Addr
 n : Nat
 c : Nat
 st : Int
 pr : Int
 lv : Int
 ss : List Sn
abbrev EnV.e0 (v : EnV) : Value := .slice v.A v.n v.c
abbrev EnV.e1 (v : EnV) : Value := .int .i64 v.st
abbrev EnV.e2 (v : EnV) : Value := .int .i64 v.pr
abbrev EnV.e3 (v : EnV) : Value := .int .i64 v.lv
abbrev EnV.zero : EnV := ⟨none, 0, 0, 0, 0, 0, []⟩
abbrev EnV.val (v : EnV) : Value := .agg #[.slice v.A v.n v.c, .int .i64 v.st, .int .i64 v.pr, .int .i64 v.lv]
/-! ### A tree in memory -/
inductive Tree4 (t : TypeId) {κ ν : Type} (ek : κ → Value) (e0 e1 e2 e3 : ν → Value) (w : World) (B : Nat) : Option Addr → List (κ × ν) → Prop
 | nil : Tree4 t ek e0 e1 e2 e3 w B none []
 | node {b : Nat} {l r : Option Addr} {xs ys : List (κ × ν)} {k : κ} {v : ν} : b < B → Is w b t #[ek k, e0 v, e1 v, e2 v, e3 v, .pointer l, .pointer r, .int .i64 ((xs ++ (k, v) :: ys).length : Int)] → Tree4 t ek e0 e1 e2 e3 w B l xs → Tree4 t ek e0 e1 e2 e3 w B r ys →
  Tree4 t ek e0 e1 e2 e3 w B (some ⟨b, 0, none⟩) (xs ++ (k, v) :: ys)
section
variable {t : TypeId} {κ ν : Type} {ek : κ → Value} {e0 e1 e2 e3 : ν → Value} {w w' : World} {B B' : Nat} {p : Option Addr} {xs : List (κ × ν)}
theorem Tree4.under (h : Tree4 t ek e0 e1 e2 e3 w B p xs) (hb : Below B w w') : Tree4 t ek e0 e1 e2 e3 w' B p xs := by
 induction h with
 | nil => exact .nil
 | node hB hi _ _ ihl ihr => exact .node hB (hi.below hb hB) ihl ihr
theorem Tree4.wide (h : Tree4 t ek e0 e1 e2 e3 w B p xs) (hB : B ≤ B') : Tree4 t ek e0 e1 e2 e3 w B' p xs := by
 induction h with
 | nil => exact .nil
 | node hb hi _ _ ihl ihr => exact .node (by omega) hi ihl ihr
theorem Tree4.of_nil (h : Tree4 t ek e0 e1 e2 e3 w B none xs) : xs = [] := by cases h; rfl
theorem Tree4.is_nil (h : Tree4 t ek e0 e1 e2 e3 w B p []) : p = none := by
 generalize hx : ([] : List (κ × ν)) = zs at h
 cases h with
 | nil => rfl
 | node _ _ _ _ => simp at hx
theorem Tree4.of_some {a : Addr} (h : Tree4 t ek e0 e1 e2 e3 w B (some a) xs) : ∃ (b : Nat) (l r : Option Addr) (ls rs : List (κ × ν)) (k : κ) (v : ν), a = ⟨b, 0, none⟩ ∧ xs = ls ++ (k, v) :: rs ∧ b < B ∧
  Is w b t #[ek k, e0 v, e1 v, e2 v, e3 v, .pointer l, .pointer r, .int .i64 ((ls ++ (k, v) :: rs).length : Int)] ∧ Tree4 t ek e0 e1 e2 e3 w B l ls ∧ Tree4 t ek e0 e1 e2 e3 w B r rs := by
 cases h with
 | node hb hi hl hr => exact ⟨_, _, _, _, _, _, _, rfl, rfl, hb, hi, hl, hr⟩
theorem Tree4.full (h : Tree4 t ek e0 e1 e2 e3 w B p xs) (hx : 0 < xs.length) : ∃ (b : Nat) (l r : Option Addr) (ls rs : List (κ × ν)) (k : κ) (v : ν), p = some ⟨b, 0, none⟩ ∧ xs = ls ++ (k, v) :: rs ∧ b < B ∧
  Is w b t #[ek k, e0 v, e1 v, e2 v, e3 v, .pointer l, .pointer r, .int .i64 ((ls ++ (k, v) :: rs).length : Int)] ∧ Tree4 t ek e0 e1 e2 e3 w B l ls ∧ Tree4 t ek e0 e1 e2 e3 w B r rs := by
 cases h with
 | nil => simp at hx
 | node hb hi hl hr => exact ⟨_, _, _, _, _, _, _, rfl, rfl, hb, hi, hl, hr⟩
def sizeAt4 (w : World) : Value → Nat
 | .pointer (some a) => match w.cell? ⟨a.block, 7, none⟩ with
   | some (.int _ n) => n.toNat
   | _ => 0
 | _ => 0
theorem Tree4.size (h : Tree4 t ek e0 e1 e2 e3 w B p xs) : sizeAt4 w (.pointer p) = xs.length := by
 cases h with
 | nil => rfl
 | node hb hi hl hr =>
   have := hi.cell 7
   simp only [sizeAt4]
   rw [this]
   simp
   omega
theorem Tree4.new {l r : Option Addr} {ls rs : List (κ × ν)} {k : κ} {v : ν} {g : Nat} {n : Int} (hl : Tree4 t ek e0 e1 e2 e3 w w.heap.size l ls) (hr : Tree4 t ek e0 e1 e2 e3 w w.heap.size r rs) (hg : g = w.heap.size) (hn : n = ((ls ++ (k, v) :: rs).length : Int)) :
  Tree4 t ek e0 e1 e2 e3 (w.alloc (.cells #[ek k, e0 v, e1 v, e2 v, e3 v, .pointer l, .pointer r, .int .i64 n] t)) (w.alloc (.cells #[ek k, e0 v, e1 v, e2 v, e3 v, .pointer l, .pointer r, .int .i64 n] t)).heap.size (some ⟨g, 0, none⟩) (ls ++ (k, v) :: rs) := by
 subst hg hn
 have hb := (Below.refl w.heap.size w).alloc (Nat.le_refl _) (.cells #[ek k, e0 v, e1 v, e2 v, e3 v, .pointer l, .pointer r, .int .i64 ((ls ++ (k, v) :: rs).length : Int)] t)
 exact .node (by simp) (Is.new _ _ _ rfl) ((hl.under hb).wide (by simp)) ((hr.under hb).wide (by simp))
theorem Tree4.keeps (h : Tree4 t ek e0 e1 e2 e3 w B p xs) (hb : Keeps t w w') : Tree4 t ek e0 e1 e2 e3 w' B p xs := by
 induction h with
 | nil => exact .nil
 | node hB hi _ _ ihl ihr => exact .node hB (hb.is hi) ihl ihr
theorem Tree4.far (h : Tree4 t ek e0 e1 e2 e3 w B p xs) {g i : Nat} {t' : TypeId} {cs : Array Value} (hg : Is w g t' cs) (ht : t ≠ t') (u : Value) : Tree4 t ek e0 e1 e2 e3 (w.setCell ⟨g, i, none⟩ u) B p xs := by
 induction h with
 | nil => exact .nil
 | node hB hi _ _ ihl ihr =>
   refine .node hB (hi.far (p := ⟨g, i, none⟩) ?_ u) ihl ihr
   intro e
   subst e
   unfold Is at hi hg
   rw [hi] at hg
   injection hg with hg
   injection hg with _ h2
   exact ht h2
theorem Tree4.drewN (h : Tree4 t ek e0 e1 e2 e3 w B p xs) (n : Nat) : Tree4 t ek e0 e1 e2 e3 (w.drewN n) B p xs := by
 induction h with
 | nil => exact .nil
 | node hB hi _ _ ihl ihr => exact .node hB (hi.drewN n) ihl ihr
end
end Go.Law
namespace Go.Law
open Go.RowKit Go.ChangeShapes Go.WideShapes Go.ChangeAt
theorem add_plainR (b off i : Nat) : (⟨b, off, none⟩ : Addr).add i = ⟨b, off + i, none⟩ := by
 by_cases h0 : i = 0
 ·subst h0; simp [Addr.add]
 ·simp [Addr.add, h0]
section
variable {α : Type} (cells : α → List Value) {sz : Nat} (hc : ∀ q, (cells q).length = sz)
include hc
theorem rows_length : ∀ l : List α, (l.flatMap cells).length = l.length * sz
 | [] => by simp
 | q :: r => by rw [List.flatMap_cons, List.length_append, hc, rows_length r, List.length_cons, Nat.add_mul]; omega
theorem rows_at : ∀ {l : List α} {i : Nat} {q : α}, l[i]? = some q → ∀ {j : Nat}, j < sz → (l.flatMap cells)[i * sz + j]? = (cells q)[j]?
 | [], _, _, h, _, _ => by simp at h
 | p :: r, 0, q, h, j, hj => by
   simp at h; subst h
   rw [List.flatMap_cons, Nat.zero_mul, Nat.zero_add, List.getElem?_append_left (by rw [hc]; exact hj)]
 | p :: r, i + 1, q, h, j, hj => by
   rw [List.flatMap_cons, List.getElem?_append_right (by rw [hc, Nat.add_mul]; omega), hc, show (i + 1) * sz + j - sz = i * sz + j by rw [Nat.add_mul]; omega]
   exact rows_at (by simpa using h) hj
theorem Seq.row {w : World} {lo B : Nat} {A : Option Addr} {l : List α} {i : Nat} (hsz : 0 < sz) (h : Seq w lo B A (l.flatMap cells)) (hi : i < l.length) : ∃ b off, A = some ⟨b, off, none⟩ ∧ lo ≤ b ∧ b < B ∧ ∀ j u, (cells l[i])[j]? = some u → w.cell? ⟨b, off + i * sz + j, none⟩ = some u := by
 have hne : l.flatMap cells ≠ [] := by
  intro h0
  have := rows_length cells hc l
  rw [h0, List.length_nil] at this
  have := Nat.mul_pos (show 0 < l.length by omega) hsz
  omega
 obtain ⟨b, off, e, hl, hb, hcell⟩ := h hne
 refine ⟨b, off, e, hl, hb, fun j u hu => ?_⟩
 have hj : j < sz := by have := (List.getElem?_eq_some_iff.1 hu).1; rwa [hc] at this
 have := hcell (i * sz + j) u (by rw [rows_at cells hc (List.getElem?_eq_getElem hi) hj]; exact hu)
 rwa [← Nat.add_assoc] at this
theorem open_rows {H : Type} {enc : TypeId × Value → H} {P : Program} {t e : TypeId} {Good : α → Prop} (ht : P.underlying t = some (.slice e)) (ce : P.cellsOf e = sz) (hsz : 0 < sz)
  {W : World} {base b0 : Nat} {sp : Nat → Bool} {hd : Bool} {v : Value} {d : DataW H} {p : List MemPlace}
  (dec : ∀ (fuel : Nat) (cs : List Value) (x : DataW H × List MemPlace), DataW.trod enc P W base sp hd fuel e cs = some x → ∃ q : α, cs = cells q ∧ Good q)
  (hv : Value.okWide P W .any b0 t v) (h : DataW.Trod enc P W base sp hd t v d p) :
  ∃ (A : Option Addr) (c : Nat) (l : List α), v = .slice A l.length c ∧ Seq W 0 W.heap.size A (l.flatMap cells) ∧ l.length ≤ maxLen ∧ ∀ q ∈ l, Good q := by
 obtain ⟨a, n, c, rfl⟩ := okWide_slice ht hv
 obtain ⟨fuel, hf⟩ := h
 rcases Go.Deep.open_slice ht hf with ⟨hcs, _⟩ | ⟨x, l, k, m, n', D, Pl, hcs, _, hl, hmx, hm, hdp, hx⟩
 ·simp [Value.cells] at hcs
  obtain ⟨rfl, rfl, rfl⟩ := hcs
  exact ⟨none, 0, [], rfl, fun h => absurd rfl h, by simp, fun _ h => by cases h⟩
 ·simp [Value.cells] at hcs
  obtain ⟨rfl, rfl, rfl⟩ := hcs
  have hlm : n ≤ m := by rw [hm]; split <;> omega
  obtain ⟨b, off, spot⟩ := x
  have hsp : 0 < n → spot = none := fun hn => by
   obtain ⟨cs', h1, h2⟩ := hx 0 (by omega)
   rw [ce] at h1
   obtain ⟨_, hlen, hcell⟩ := World.cells?_some h1
   have e0 := hcell 0 (by omega)
   rw [Go.Deep.add_add, List.getElem?_eq_getElem (by omega)] at e0
   have := World.cell?_spot e0
   simpa [Addr.add] using this
  have each : ∀ i, i < n → spot = none ∧ b < W.heap.size ∧ ∃ q : α, Good q ∧ ∀ j u, (cells q)[j]? = some u → W.cell? ⟨b, off + i * sz + j, none⟩ = some u := fun i hi => by
   obtain ⟨cs', h1, h2⟩ := hx i (by omega)
   rw [ce] at h1
   obtain ⟨_, hlen, hcell⟩ := World.cells?_some h1
   obtain ⟨q, rfl, hg⟩ := dec _ _ _ h2
   have hspot : spot = none := hsp (by omega)
   subst hspot
   have hj : ∀ j u, (cells q)[j]? = some u → W.cell? ⟨b, off + i * sz + j, none⟩ = some u := fun j u hu => by
    have hjl : j < sz := by have := (List.getElem?_eq_some_iff.1 hu).1; rwa [hc] at this
    have e0 := hcell j hjl
    rw [Go.Deep.add_add, add_plainR, hu, ← Nat.add_assoc] at e0
    exact e0
   refine ⟨rfl, ?_, q, hg, hj⟩
   have h0 : (cells q)[0]? = some ((cells q)[0]'(by rw [hc]; exact hsz)) := List.getElem?_eq_getElem _
   exact World.block_lt_of_cell? W _ (hj 0 _ h0)
  have : ∃ g : Nat → Option α, ∀ i, i < n → ∃ q, g i = some q ∧ Good q ∧ ∀ j u, (cells q)[j]? = some u → W.cell? ⟨b, off + i * sz + j, none⟩ = some u := by
   refine ⟨fun i => if h : i < n then some (Classical.choose (each i h).2.2) else none, fun i hi => ?_⟩
   simp only [hi, dif_pos]
   exact ⟨_, rfl, Classical.choose_spec (each i hi).2.2⟩
  obtain ⟨g, hg⟩ := this
  have hmap : ∃ l : List α, l.length = n ∧ ∀ i q, l[i]? = some q → Good q ∧ ∀ j u, (cells q)[j]? = some u → W.cell? ⟨b, off + i * sz + j, none⟩ = some u := by
   clear hl hmx hm hx hlm each hv hf hsp hdp
   induction n with
   | zero => exact ⟨[], rfl, fun i q h => by simp at h⟩
   | succ n ih =>
     obtain ⟨l, hl, hq⟩ := ih (fun i hi => hg i (by omega))
     obtain ⟨q, _, hG, hQ⟩ := hg n (by omega)
     refine ⟨l ++ [q], by simp [hl], fun i q' h => ?_⟩
     rcases Nat.lt_or_ge i n with h1 | h1
     ·rw [List.getElem?_append_left (by omega)] at h
      exact hq i q' h
     ·rw [List.getElem?_append_right (by omega)] at h
      have hi : i = n := by
       have := (List.getElem?_eq_some_iff.1 h).1
       simp at this; omega
      subst hi
      simp [hl] at h
      subst h
      exact ⟨hG, hQ⟩
  obtain ⟨l, hll, hlq⟩ := hmap
  subst hll
  refine ⟨some ⟨b, off, spot⟩, c, l, rfl, fun hne => ?_, by omega, fun q hq => ?_⟩
  ·have hn : 0 < l.length := by
    rcases Nat.eq_zero_or_pos l.length with h0 | h0
    ·rw [List.eq_nil_of_length_eq_zero h0] at hne; simp at hne
    ·exact h0
   obtain ⟨hsp', hb, _⟩ := each 0 hn
   subst hsp'
   refine ⟨b, off, rfl, Nat.zero_le _, hb, fun i u hu => ?_⟩
   have hi : i < l.length * sz := by
    have := (List.getElem?_eq_some_iff.1 hu).1
    rwa [rows_length cells hc] at this
   have hq : i / sz < l.length := (Nat.div_lt_iff_lt_mul hsz).2 hi
   have hj : i % sz < sz := Nat.mod_lt _ hsz
   have hdm : i / sz * sz + i % sz = i := by rw [Nat.mul_comm]; exact Nat.div_add_mod i sz
   have h1 := rows_at cells hc (List.getElem?_eq_getElem hq) hj
   rw [hdm, hu] at h1
   have h2 := (hlq _ _ (List.getElem?_eq_getElem hq)).2 (i % sz) u h1.symm
   rwa [Nat.add_assoc, hdm] at h2
  ·obtain ⟨i, hi, rfl⟩ := List.getElem_of_mem hq
   exact (hlq i _ (List.getElem?_eq_getElem hi)).1
end
theorem open_struct {α : Type} (cells : α → List Value) {Good : α → Prop} {H : Type} {enc : TypeId × Value → H} {P : Program} {t : TypeId} {fs : Array Field} (ht : P.underlying t = some (.struct fs))
  {W : World} {base b0 : Nat} {sp : Nat → Bool} {hd : Bool} {v : Value} {d : DataW H} {p : List MemPlace}
  (dec : ∀ (fuel : Nat) (cs : List Value) (x : DataW H × List MemPlace), DataW.trod enc P W base sp hd fuel t cs = some x → ∃ q : α, cs = cells q ∧ Good q)
  (hv : Value.okWide P W .any b0 t v) (h : DataW.Trod enc P W base sp hd t v d p) : ∃ q : α, v = .agg (cells q).toArray ∧ Good q := by
 obtain ⟨cs, rfl, _⟩ := okWide_struct ht hv
 obtain ⟨fuel, hf⟩ := h
 obtain ⟨q, hq, hg⟩ := dec _ _ _ hf
 refine ⟨q, ?_, hg⟩
 rw [← hq]
 simp [Value.cells]
end Go.Law
namespace Go.Law
open Go.RowKit
def Lain (t : TypeId) (w : World) (A : Option Addr) (xs : List Value) : Prop := xs ≠ [] → ∃ g off cs, A = some ⟨g, off, none⟩ ∧ Is w g t cs ∧ ∀ (i : Nat) u, xs[i]? = some u → cs[off + i]? = some u
section
variable {t : TypeId} {w w' : World} {A : Option Addr} {xs : List Value}
theorem Lain.nil : Lain t w A [] := fun h => absurd rfl h
theorem Lain.seq (h : Lain t w A xs) : Seq w 0 w.heap.size A xs := fun hn => by
 obtain ⟨g, off, cs, e, hi, hc⟩ := h hn
 exact ⟨g, off, e, Nat.zero_le _, hi.lt, fun i u hu => (hi.cell _).trans (hc i u hu)⟩
theorem Lain.keeps (h : Lain t w A xs) (hk : Keeps t w w') : Lain t w' A xs := fun hn => by
 obtain ⟨g, off, cs, e, hi, hc⟩ := h hn
 exact ⟨g, off, cs, e, hk.is hi, hc⟩
theorem Lain.now (h : Lain t w A xs) (hb : Below w.heap.size w w') : Lain t w' A xs := h.keeps (Keeps.of_below hb)
theorem Lain.is {g : Nat} {cs : Array Value} (h : Is w g t cs) (e : cs.toList = xs) : Lain t w (some ⟨g, 0, none⟩) xs := fun _ => ⟨g, 0, cs, rfl, h, fun i u hu => by subst e; simpa using hu⟩
theorem Lain.own {base size n c : Nat} (h : w.ownsRow base t size (.slice A n c) n xs) : Lain t w A xs := fun hn => by
 rcases h.2 with ⟨h1, h2⟩ | ⟨k, cap, cur, hv, hk, hh, hr⟩
 ·exact absurd (List.eq_nil_of_length_eq_zero (by rw [h.1, h2]; simp)) hn
 ·injection hv with hA
  subst hA
  refine ⟨k, 0, cur, rfl, hh, fun i u hu => ?_⟩
  rw [← hr.2.2.2] at hu
  rw [List.getElem?_take] at hu
  split at hu
  ·rw [Nat.zero_add]; simpa using hu
  ·cases hu
end
end Go.Law
