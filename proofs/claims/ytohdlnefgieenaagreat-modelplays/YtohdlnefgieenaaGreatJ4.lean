/-
  Books in memory: an entry's cells and the sessions that they stand for; a book as a plain list; what has to be told, as cells. General over programs.
-/
import Derived.Test.YtohdlnefgieenaaGreatJ2
import Derived.Test.YtohdlnefgieenaaGreatJ3
import Derived.Test.YtohdlnefgieenaaGreatRows
import Derived.Test.YtohdlnefgieenaaGreatJ0
namespace Go.Law
open Go.RowKit
section
variable {κ α β : Type} (lt : κ → κ → Prop) [DecidableRel lt] [DecidableEq κ]
def mapV (f : α → β) (xs : List (κ × α)) : List (κ × β) := xs.map fun q => (q.1, f q.2)
omit [DecidableEq κ] in
theorem mapV_put (f : α → β) (k : κ) (v : α) : ∀ xs : List (κ × α), mapV f (putK lt k v xs) = putK lt k (f v) (mapV f xs)
 | [] => rfl
 | p :: r => by
   have ih := mapV_put f k v r
   unfold mapV at *
   rw [List.map_cons, putK, putK]
   simp only
   split
   ·simp
   ·split
    ·rw [List.map_cons, ih]
    ·simp
omit [DecidableRel lt] lt in
theorem mapV_out (f : α → β) (k : κ) : ∀ xs : List (κ × α), mapV f (outK k xs) = outK k (mapV f xs)
 | [] => rfl
 | p :: r => by
   have ih := mapV_out f k r
   unfold mapV outK at *
   rw [List.map_cons]
   by_cases h : p.1 = k
   ·rw [List.filter_cons_of_neg (by simp [h]), List.filter_cons_of_neg (by simp [h]), ih]
   ·rw [List.filter_cons_of_pos (by simpa using h), List.filter_cons_of_pos (by simpa using h), List.map_cons, ih]
omit [DecidableRel lt] lt in
theorem mapV_get (f : α → β) (k : κ) : ∀ xs : List (κ × α), getK k (mapV f xs) = (getK k xs).map f
 | [] => rfl
 | p :: r => by
   have ih := mapV_get f k r
   unfold mapV at *
   rw [List.map_cons, getK, getK]
   simp only
   split
   ·rfl
   ·exact ih
omit [DecidableRel lt] [DecidableEq κ] lt in
theorem mapV_length (f : α → β) (xs : List (κ × α)) : (mapV f xs).length = xs.length := List.length_map ..
omit [DecidableRel lt] [DecidableEq κ] in
theorem mapV_rises {f : α → β} {xs : List (κ × α)} : Rises lt (mapV f xs) ↔ Rises lt xs := by unfold mapV Rises; rw [List.pairwise_map]
end
abbrev EnV.told (v : EnV) : Pr := (v.st, v.pr, v.lv)
def EnV.en (v : EnV) : En := (v.ss, v.told)
def EnV.In (t : TypeId) (v : EnV) (w : World) : Prop := v.n = v.ss.length ∧ Lain t w v.A (flatS v.ss)
theorem EnV.In.keeps {t : TypeId} {v : EnV} {w w' : World} (h : v.In t w) (hk : Keeps t w w') : v.In t w' := ⟨h.1, h.2.keeps hk⟩
theorem EnV.In.zero (t : TypeId) (w : World) : EnV.zero.In t w := ⟨rfl, Lain.nil⟩
theorem get_ses {xs : List (ByteArray × EnV)} (k : ByteArray) : ((getK k xs).getD EnV.zero).ss = sesK k (mapV EnV.en xs) := by
 unfold sesK; rw [mapV_get]; cases getK k xs <;> rfl
theorem get_told {xs : List (ByteArray × EnV)} (k : ByteArray) : ((getK k xs).getD EnV.zero).told = toldK k (mapV EnV.en xs) := by
 unfold toldK; rw [mapV_get]; cases getK k xs <;> rfl
theorem get_in {t : TypeId} {xs : List (ByteArray × EnV)} {w : World} (k : ByteArray) (h : ∀ q ∈ xs, q.2.In t w) : ((getK k xs).getD EnV.zero).In t w := by
 cases hg : getK k xs with
 | none => exact EnV.In.zero t w
 | some v => exact h _ (getK_mem hg)
/-! ### What has to be told -/
abbrev Ch := ByteArray × Pr × Pr
def cellsC (q : Ch) : List Value := [.string q.1, .int .i64 q.2.1.1, .int .i64 q.2.1.2.1, .int .i64 q.2.1.2.2, .int .i64 q.2.2.1, .int .i64 q.2.2.2.1, .int .i64 q.2.2.2.2]
def flatC (l : List Ch) : List Value := l.flatMap cellsC
theorem flatC_one (l : List Ch) : ∀ u ∈ flatC l, u.oneCell' = true := by
 intro u hu
 obtain ⟨q, _, hq⟩ := List.mem_flatMap.1 hu
 simp [cellsC] at hq
 rcases hq with rfl | rfl | rfl | rfl | rfl | rfl | rfl <;> rfl
theorem flatC_length (l : List Ch) : (flatC l).length = l.length * 7 := rows_length (cells := cellsC) (fun _ => rfl) l
theorem flatC_app (xs ys : List Ch) : flatC (xs ++ ys) = flatC xs ++ flatC ys := List.flatMap_append
theorem tells_le (u : ByteArray) (ss : List Sn) (now : Int) (b : List (ByteArray × En)) : (tells u ss now b).length ≤ 1 := by unfold tells; split <;> simp
end Go.Law
namespace Door
def top : Int := 18446744073709551615
def sat (a b : Int) : Int := if a + b ≤ top then a + b else top
def U (a : Int) : Prop := 0 ≤ a ∧ a ≤ top
theorem sat_U {a b : Int} (ha : U a) (hb : U b) : U (sat a b) := by
 unfold U at *; unfold sat; split <;> (unfold top at *; omega)
theorem U0 : U 0 := by unfold U top; omega
theorem U1 : U 1 := by unfold U top; omega
end Door
namespace Go.Proofs.YtohdlnefgieenaaGreat
theorem own : ownKnob Tryz.prog.godebug = none := by kernel_rfl
theorem laidOut : laidOutB Tryz.prog = true := by kernel_rfl
end Go.Proofs.YtohdlnefgieenaaGreat
