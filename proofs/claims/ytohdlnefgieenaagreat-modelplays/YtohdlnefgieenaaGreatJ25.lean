/-
  What acts make of a table (layer 10), one behind the other: plain.
-/
import Derived.Test.YtohdlnefgieenaaGreatJ24
import Derived.Test.YtohdlnefgieenaaGreatJ18
import Derived.Deep.RegionHeld3
namespace Go.Proofs.YtohdlnefgieenaaGreat
open Go.RowKit
namespace Mod
open Go.Law Feed Bk
@[go_sem] theorem run_time0 (a b c : Value) (w : World) : Sem.run Tryz.prog (Instr.field 50 (.agg #[a, b, c]) 0) w = .ok a w := by kernel_rfl
@[go_sem] theorem run_time1 (a b c : Value) (w : World) : Sem.run Tryz.prog (Instr.field 50 (.agg #[a, b, c]) 1) w = .ok b w := by kernel_rfl
@[go_sem] theorem run_time2 (a b c : Value) (w : World) : Sem.run Tryz.prog (Instr.field 50 (.agg #[a, b, c]) 2) w = .ok c w := by kernel_rfl
@[go_sem] theorem run_pres2 (a b c : Value) (w : World) : Sem.run Tryz.prog (Instr.field 57 (.agg #[a, b, c]) 2) w = .ok c w := by kernel_rfl
@[go_sem] theorem run_conf1 (w : World) : Sem.run Tryz.prog (Instr.field 24 small.val 1) w = .ok (.int .i64 2) w := by kernel_rfl
@[go_sem] theorem run_conf3 (w : World) : Sem.run Tryz.prog (Instr.field 24 small.val 3) w = .ok (.int .i64 4) w := by kernel_rfl
def Mo.run (a : Mo) (l : List AcM) : Mo := l.foldl (fun a q => (a.act q).1) a
theorem run_snoc (a : Mo) (l : List AcM) (q : AcM) : a.run (l ++ [q]) = ((a.run l).act q).1 := by simp [Mo.run]
theorem run_take (a : Mo) {l : List AcM} {j : Nat} (h : j < l.length) : a.run (l.take (j + 1)) = ((a.run (l.take j)).act l[j]).1 := by rw [List.take_succ_eq_append_getElem h, run_snoc]
theorem run_ok {a : Mo} {b : Nat} (h : a.Ok b) : ∀ {l : List AcM}, (∀ q ∈ l, Door.U q.by_) → (a.run l).Ok (b + l.length) := fun {l} => by
 induction l generalizing a b with
 | nil => intro _; exact h
 | cons q r ih =>
   intro hq
   have h1 := ih (act_ok h q (hq q (by simp))) (fun x hx => hq x (by simp [hx]))
   have e : b + 1 + r.length = b + (q :: r).length := by simp; omega
   rw [e] at h1
   exact h1
theorem run_ok_take {a : Mo} (h : a.Ok 0) {l : List AcM} (hq : ∀ q ∈ l, Door.U q.by_) (hl : l.length ≤ 120) (j : Nat) : (a.run (l.take j)).Ok 120 :=
 (run_ok h (l := l.take j) (fun q hx => hq q (List.mem_of_mem_take hx))).more (by simp; omega)
/-! ### What stays, and what is counted -/
end Mod
end Go.Proofs.YtohdlnefgieenaaGreat
namespace Go.Law
open Go.RowKit Go.ChangeShapes Go.WideShapes Go.ChangeAt
/-! ### Names that are watched -/
def keys (xs : List (ByteArray × Int)) : List ByteArray := xs.map (·.1)
theorem getK_keys (u : ByteArray) : ∀ xs : List (ByteArray × Int), (getK u xs).isSome = true ↔ u ∈ keys xs
 | [] => by simp [getK, keys]
 | p :: r => by
   have ih := getK_keys u r
   unfold keys at *
   rw [getK, List.map_cons, List.mem_cons]
   by_cases h : p.1 = u
   ·simp [h]
   ·rw [if_neg h, ih]
    exact ⟨Or.inr, fun h' => h'.elim (fun e => absurd e.symm h) id⟩
section
variable {lt : ByteArray → ByteArray → Prop} [DecidableRel lt]
theorem putK_new (ht : Tri lt) (u : ByteArray) (v : Int) : ∀ xs : List (ByteArray × Int), u ∉ keys xs → (keys (putK lt u v xs)).Perm (u :: keys xs)
 | [], _ => List.Perm.refl _
 | p :: r, h => by
   have h1 : u ≠ p.1 := fun e => h (by simp [keys, e])
   have ih := putK_new ht u v r (fun h' => h (by simp only [keys, List.map_cons, List.mem_cons]; exact .inr h'))
   unfold putK
   split
   ·exact List.Perm.refl _
   ·split
    ·exact (List.Perm.cons p.1 ih).trans (List.Perm.swap _ _ _)
    ·rename_i h2 h3
     rcases ht.tri u p.1 with e | e | e
     ·exact absurd e h2
     ·exact absurd e h1
     ·exact absurd e h3
theorem putK_old (ht : Tri lt) (u : ByteArray) (v : Int) : ∀ xs : List (ByteArray × Int), Rises lt xs → u ∈ keys xs → keys (putK lt u v xs) = keys xs
 | [], _, h => by simp [keys] at h
 | p :: r, hR, h => by
   have hm : u = p.1 ∨ u ∈ keys r := by simpa [keys] using h
   unfold putK
   split
   ·rename_i h2
    rcases hm with e | e
    ·exact absurd (e ▸ h2) (ht.irr _)
    ·obtain ⟨q, hq, rfl⟩ := List.mem_map.1 e
     exact absurd (hR.head q hq) (ht.asym h2)
   ·split
    ·rename_i h2 h3
     rcases hm with e | e
     ·exact absurd (e ▸ h3) (ht.irr _)
     ·have ih := putK_old ht u v r hR.tail e
      simp only [keys, List.map_cons] at ih ⊢
      rw [ih]
    ·rename_i h2 h3
     rcases ht.tri u p.1 with e | e | e
     ·exact absurd e h2
     ·simp [keys, e]
     ·exact absurd e h3
end
theorem outK_keys (u : ByteArray) (xs : List (ByteArray × Int)) : keys (outK u xs) = (keys xs).filter fun a => decide (a ≠ u) := by
 induction xs with
 | nil => rfl
 | cons p r ih =>
   unfold keys outK at *
   by_cases h : p.1 = u
   ·rw [List.filter_cons_of_neg (by simp [h]), List.map_cons, List.filter_cons_of_neg (by simp [h]), ih]
   ·rw [List.filter_cons_of_pos (by simpa using h), List.map_cons, List.map_cons, List.filter_cons_of_pos (by simpa using h), ih]
end Go.Law
namespace Go.Proofs.YtohdlnefgieenaaGreat
open Go.RowKit Go.Shelf Go.ChangeShapes Go.WideShapes Go.ChangeAt
attribute [local go_sem] Oper.semAt_some
namespace Feed
open Go.Law
section
variable {w w' : World} {base B b room : Nat} {S S' : Nat → Prop} {s s' : St} {e : TypeId} {size n : Nat} {v v' : Value} {xs : List Value}
end
end Feed
end Go.Proofs.YtohdlnefgieenaaGreat
namespace Go.Proofs.YtohdlnefgieenaaGreat
open Go.RowKit Go.Shelf
attribute [local go_sem] Oper.semAt_some
namespace Feed
open Go.Law
set_option maxRecDepth 100000 in
set_option maxHeartbeats 4000000 in
theorem refSame (zs : List Ev) (A B : Option Addr) (c d : Nat) (w : World) (ha : Seq w 0 w.heap.size A (flatE zs)) (hb : Seq w 0 w.heap.size B (flatE zs)) (hl : zs.length ≤ 1000) :
  Calls Tryz.prog 40 #[.slice A zs.length c, .slice B zs.length d] w fun e w' => e = .returned (.bool true) ∧ Below w.heap.size w w' := by
 have HA := Lib.hid ha
 have HB := Lib.hid hb
 clear ha hb
 have d0 : ((zs.length : Int) != (zs.length : Int)) = false := by simp
 go_enter Tryz.func40, Tryz.ntmps40
 go_wp2_with fail
 go_loopw [5] (fun i wr => ∃ j : Nat, j ≤ zs.length ∧ i = .int .i64 j ∧ Below w.heap.size w wr) (fun i _ => zs.length - (intOf i).toNat)
 case atStart => exact ⟨0, Nat.zero_le _, rfl, Below.refl _ _⟩
 case round =>
  obtain ⟨j, hj, rfl, hB⟩ := hrel
  have HD := Lib.hid hB
  have sz := hB.size
  clear hB
  by_cases hlt : j < zs.length
  ·have d1 : decide ((j : Int) < (zs.length : Int)) = true := by simp; omega
   obtain ⟨ga, oa, rfl, _, hga, p0, p1, p2, p3, p4, p5, p6, p7⟩ := (HA.out.below HD.out).ev hlt
   obtain ⟨gb, ob, rfl, _, hgb, q0, q1, q2, q3, q4, q5, q6, q7⟩ := (HB.out.below HD.out).ev hlt
   generalize zs[j] = x at *
   obtain ⟨x0, x1, x2, x3, x4, x5, x6, x7⟩ := x
   simp only at p0 p1 p2 p3 p4 p5 p6 p7 q0 q1 q2 q3 q4 q5 q6 q7
   go_wp2_with fail
   go_quiet (fail)
   go_wp2_with fail
   go_roundw
   case rel => exact ⟨j + 1, by omega, by go_num, Law.below_drewN HD.out nq⟩
   case measure => simp [intOf]; omega
  ·have d1 : decide ((j : Int) < (zs.length : Int)) = false := by simp; omega
   go_wp2_with fail
   go_ret
   exact ⟨rfl, HD.out⟩
end Feed
end Go.Proofs.YtohdlnefgieenaaGreat
