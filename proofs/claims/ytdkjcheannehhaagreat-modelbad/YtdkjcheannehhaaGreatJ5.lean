/-
  Cells that lie in a block of one type: as long as no block of that type turns, they lie as they lay. General over programs.
-/
import Derived.Test.YtdkjcheannehhaaGreatJ1
import Derived.Test.YtdkjcheannehhaaGreatJ3
import Derived.Test.YtdkjcheannehhaaGreatJ4
namespace Go.Law
open Go.RowKit
/-- these cells lie at A, in a block of type t -/
def Lain (t : TypeId) (w : World) (A : Option Addr) (xs : List Value) : Prop := xs ≠ [] → ∃ g off cs, A = some ⟨g, off, none⟩ ∧ Is w g t cs ∧ ∀ (i : Nat) u, xs[i]? = some u → cs[off + i]? = some u
section
variable {t : TypeId} {w w' : World} {A : Option Addr} {xs : List Value}
theorem Lain.nil : Lain t w A [] := fun h => absurd rfl h
theorem Lain.seq (h : Lain t w A xs) : Seq w 0 w.heap.size A xs := fun hn => by
  obtain ⟨g, off, cs, e, hi, hc⟩ := h hn
  exact ⟨g, off, e, Nat.zero_le _, hi.lt, fun i u hu => (hi.cell _).trans (hc i u hu)⟩
theorem Lain.keeps (h : Lain t w A xs) (hk : Keeps t w w') : Lain t w' A xs := fun hn => by
  obtain ⟨g, off, cs, e, hi, hc⟩ := h hn
  exact ⟨g, off, cs, e, hk.is hi, hc⟩
theorem Lain.now (h : Lain t w A xs) (hb : Below w.heap.size w w') : Lain t w' A xs := h.keeps (Keeps.of_below hb)
theorem Lain.is {g : Nat} {cs : Array Value} (h : Is w g t cs) (e : cs.toList = xs) : Lain t w (some ⟨g, 0, none⟩) xs := fun _ => ⟨g, 0, cs, rfl, h, fun i u hu => by subst e; simpa using hu⟩
theorem Lain.own {base size n c : Nat} (h : w.ownsRow base t size (.slice A n c) n xs) : Lain t w A xs := fun hn => by
  rcases h.2 with ⟨h1, h2⟩ | ⟨k, cap, cur, hv, hk, hh, hr⟩
  · exact absurd (List.eq_nil_of_length_eq_zero (by rw [h.1, h2]; simp)) hn
  · injection hv with hA
    subst hA
    refine ⟨k, 0, cur, rfl, hh, fun i u hu => ?_⟩
    rw [← hr.2.2.2] at hu
    rw [List.getElem?_take] at hu
    split at hu
    · rw [Nat.zero_add]; simpa using hu
    · cases hu
end
end Go.Law
/-
  Books in memory: an entry's cells and the sessions that they stand for; a book as a plain list; what has to be told, as cells. General over programs.
-/
namespace Go.Law
open Go.RowKit
section
variable {κ α β : Type} (lt : κ → κ → Prop) [DecidableRel lt] [DecidableEq κ]
/-- each value turned -/
def mapV (f : α → β) (xs : List (κ × α)) : List (κ × β) := xs.map fun q => (q.1, f q.2)
omit [DecidableEq κ] in
theorem mapV_put (f : α → β) (k : κ) (v : α) : ∀ xs : List (κ × α), mapV f (putK lt k v xs) = putK lt k (f v) (mapV f xs)
  | [] => rfl
  | p :: r => by
    have ih := mapV_put f k v r
    unfold mapV at *
    rw [List.map_cons, putK, putK]
    simp only
    split
    · simp
    · split
      · rw [List.map_cons, ih]
      · simp
omit [DecidableRel lt] lt in
theorem mapV_out (f : α → β) (k : κ) : ∀ xs : List (κ × α), mapV f (outK k xs) = outK k (mapV f xs)
  | [] => rfl
  | p :: r => by
    have ih := mapV_out f k r
    unfold mapV outK at *
    rw [List.map_cons]
    by_cases h : p.1 = k
    · rw [List.filter_cons_of_neg (by simp [h]), List.filter_cons_of_neg (by simp [h]), ih]
    · rw [List.filter_cons_of_pos (by simpa using h), List.filter_cons_of_pos (by simpa using h), List.map_cons, ih]
omit [DecidableRel lt] lt in
theorem mapV_get (f : α → β) (k : κ) : ∀ xs : List (κ × α), getK k (mapV f xs) = (getK k xs).map f
  | [] => rfl
  | p :: r => by
    have ih := mapV_get f k r
    unfold mapV at *
    rw [List.map_cons, getK, getK]
    simp only
    split
    · rfl
    · exact ih
omit [DecidableRel lt] [DecidableEq κ] lt in
theorem mapV_length (f : α → β) (xs : List (κ × α)) : (mapV f xs).length = xs.length := List.length_map ..
omit [DecidableRel lt] [DecidableEq κ] in
theorem mapV_rises {f : α → β} {xs : List (κ × α)} : Rises lt (mapV f xs) ↔ Rises lt xs := by unfold mapV Rises; rw [List.pairwise_map]
end
/-- what was told last -/
abbrev EnV.told (v : EnV) : Pr := (v.st, v.pr, v.lv)
def EnV.en (v : EnV) : En := (v.ss, v.told)
theorem Tree4.any {t : TypeId} {κ ν : Type} {ek : κ → Value} {e0 e1 e2 e3 : ν → Value} {w : World} {B : Nat} {p : Option Addr} {xs : List (κ × ν)} (h : Tree4 t ek e0 e1 e2 e3 w B p xs) : Tree4 t ek e0 e1 e2 e3 w w.heap.size p xs := by
  induction h with
  | nil => exact .nil
  | node _ hi _ _ ihl ihr => exact .node hi.lt hi ihl ihr
/-- its sessions lie where it says, in a block of type t -/
def EnV.In (t : TypeId) (v : EnV) (w : World) : Prop := v.n = v.ss.length ∧ Lain t w v.A (flatS v.ss)
theorem EnV.In.keeps {t : TypeId} {v : EnV} {w w' : World} (h : v.In t w) (hk : Keeps t w w') : v.In t w' := ⟨h.1, h.2.keeps hk⟩
theorem EnV.In.zero (t : TypeId) (w : World) : EnV.zero.In t w := ⟨rfl, Lain.nil⟩
theorem EnV.en_zero : EnV.zero.en = ([], (0, 0, 0)) := rfl
theorem get_ses {xs : List (ByteArray × EnV)} (k : ByteArray) : ((getK k xs).getD EnV.zero).ss = sesK k (mapV EnV.en xs) := by
  unfold sesK; rw [mapV_get]; cases getK k xs <;> rfl
theorem get_told {xs : List (ByteArray × EnV)} (k : ByteArray) : ((getK k xs).getD EnV.zero).told = toldK k (mapV EnV.en xs) := by
  unfold toldK; rw [mapV_get]; cases getK k xs <;> rfl
theorem get_in {t : TypeId} {xs : List (ByteArray × EnV)} {w : World} (k : ByteArray) (h : ∀ q ∈ xs, q.2.In t w) : ((getK k xs).getD EnV.zero).In t w := by
  cases hg : getK k xs with
  | none => exact EnV.In.zero t w
  | some v => exact h _ (getK_mem hg)
/-! ### What has to be told -/
abbrev Ch := ByteArray × Pr × Pr
def cellsC (q : Ch) : List Value := [.string q.1, .int .i64 q.2.1.1, .int .i64 q.2.1.2.1, .int .i64 q.2.1.2.2, .int .i64 q.2.2.1, .int .i64 q.2.2.2.1, .int .i64 q.2.2.2.2]
def flatC (l : List Ch) : List Value := l.flatMap cellsC
theorem flatC_one (l : List Ch) : ∀ u ∈ flatC l, u.oneCell' = true := by
  intro u hu
  obtain ⟨q, _, hq⟩ := List.mem_flatMap.1 hu
  simp [cellsC] at hq
  rcases hq with rfl | rfl | rfl | rfl | rfl | rfl | rfl <;> rfl
theorem flatC_length (l : List Ch) : (flatC l).length = l.length * 7 := rows_length (cells := cellsC) (fun _ => rfl) l
theorem flatC_app (xs ys : List Ch) : flatC (xs ++ ys) = flatC xs ++ flatC ys := List.flatMap_append
theorem Seq.ch {w : World} {lo B : Nat} {A : Option Addr} {l : List Ch} {i : Nat} (h : Seq w lo B A (flatC l)) (hi : i < l.length) : ∃ b off, A = some ⟨b, off, none⟩ ∧ lo ≤ b ∧ b < B ∧
    w.cell? ⟨b, off + i * 7, none⟩ = some (.string l[i].1) ∧ w.cell? ⟨b, off + i * 7 + 1, none⟩ = some (.int .i64 l[i].2.1.1) ∧ w.cell? ⟨b, off + i * 7 + 2, none⟩ = some (.int .i64 l[i].2.1.2.1) ∧ w.cell? ⟨b, off + i * 7 + 3, none⟩ = some (.int .i64 l[i].2.1.2.2) ∧
    w.cell? ⟨b, off + i * 7 + 4, none⟩ = some (.int .i64 l[i].2.2.1) ∧ w.cell? ⟨b, off + i * 7 + 5, none⟩ = some (.int .i64 l[i].2.2.2.1) ∧ w.cell? ⟨b, off + i * 7 + 6, none⟩ = some (.int .i64 l[i].2.2.2.2) := by
  obtain ⟨b, off, hA, h1, h2, hc⟩ := Seq.row (cells := cellsC) (fun _ => rfl) (by decide : 0 < 7) h hi
  exact ⟨b, off, hA, h1, h2, by simpa using hc 0 _ rfl, hc 1 _ rfl, hc 2 _ rfl, hc 3 _ rfl, hc 4 _ rfl, hc 5 _ rfl, hc 6 _ rfl⟩
theorem tells_le (u : ByteArray) (ss : List Sn) (now : Int) (b : List (ByteArray × En)) : (tells u ss now b).length ≤ 1 := by unfold tells; split <;> simp
end Go.Law
