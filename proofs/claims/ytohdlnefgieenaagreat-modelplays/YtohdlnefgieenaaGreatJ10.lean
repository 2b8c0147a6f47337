/-
  What the reference's Beat, and the statements' awake (layer 6), come to.
-/
import Derived.Test.YtohdlnefgieenaaGreatJ9
import Derived.Test.YtohdlnefgieenaaGreatRows
import Derived.Test.YtohdlnefgieenaaGreatJ4
import Derived.WalkKit
import Derived.WalkSpells
import Derived.WalkLawsBesides
namespace Go.Proofs.YtohdlnefgieenaaGreat
open Go.RowKit
namespace Sess
open Go.Law

set_option maxRecDepth 100000 in
set_option maxHeartbeats 800000 in
theorem refBeatNo (k u : Int) (zs : List Sn) (A : Option Addr) (c : Nat) (w : World) (hs : Seq w 0 w.heap.size A (flatS zs)) (hl : zs.length ≤ 900) (hh : hasS k zs = false) :
  Calls Tryz.prog 64 #[.slice A zs.length c, .int .i64 k, .int .u64 u] w fun e w' => e = .returned (.tuple #[.slice A zs.length c, .int .i64 3]) ∧ Below w.heap.size w w' := by
 have HS := Lib.hid hs
 clear hs
 go_enter Tryz.func64, Tryz.ntmps64
 go_wp2_with fail
 refine (refHas k zs A c _ HS.out (by omega)).mono ?_
 rintro e w1 ⟨rfl, rfl⟩
 rw [hh]
 clear hh
 go_wp2_with fail
 exact bodyPost_ret (v := .tuple #[.slice A zs.length c, .int .i64 3]) (by simp [results, Tryz.results64, go_sem]) rfl ⟨rfl, Below.refl _ _⟩

set_option maxRecDepth 100000 in
set_option maxHeartbeats 1600000 in
theorem refBeatOne (k u : Int) (zs : List Sn) (A : Option Addr) (c : Nat) (w : World) (hs : Seq w 0 w.heap.size A (flatS zs)) (hl : zs.length ≤ 900) (hh : hasS k zs = true) :
  Calls Tryz.prog 64 #[.slice A zs.length c, .int .i64 k, .int .u64 u] w (Listed2 w (beatS k u zs) 0) := by
 obtain ⟨i0, hE⟩ := elem
 have HE := Lib.hid hE
 have HS := Lib.hid hs
 clear hs hE
 go_enter Tryz.func64, Tryz.ntmps64
 go_wp2_with fail
 refine (refHas k zs A c _ HS.out (by omega)).mono ?_
 rintro e w1 ⟨rfl, rfl⟩
 rw [hh]
 clear hh
 go_wp2_with fail
 go_loopw [8, 9] (fun v i wr => ∃ j : Nat, j ≤ zs.length ∧ i = .int .i64 j ∧ Row wr w.heap.size v (beatS k u (zs.take j)) ∧ Below w.heap.size w wr) (fun _ i _ => zs.length - (intOf i).toNat)
 case atStart => exact ⟨0, Nat.zero_le _, rfl, World.ownsRow_nil _ _ _ _, Below.refl _ _⟩
 case round =>
  obtain ⟨j, hj, rfl, hown, hB⟩ := hrel
  have HO := Lib.hid hown
  have HB := Lib.hid hB
  have hol2 : (beatS k u (zs.take j)).length ≤ 900 := by rw [beat_length]; simp; omega
  have sb := hB.size
  clear hown hB
  by_cases hlt : j < zs.length
  ·obtain ⟨b, off, rfl, _, hb, q0, q1, q2, q3⟩ := (HS.out.below HB.out).ses hlt
   have HT := Lib.hid (List.take_succ_eq_append_getElem hlt)
   have HT2 : Hid (beatS k u (zs.take (j + 1)) = beatS k u (zs.take j) ++ [beat1 k u zs[j]]) := by show _ = _; rw [HT.out, beat_snoc]
   clear HT
   have lb : b < wr.heap.size := by omega
   generalize beatS k u (zs.take j) = os at *
   generalize hq : zs[j] = q at *
   obtain ⟨y0, y1, y2, y3⟩ := q
   simp only at q0 q1 q2 q3
   by_cases hk : y0 = k
   ·subst hk
    by_cases hk2 : y3 < u
    ·have HX : Hid (beat1 y0 u (y0, y1, y2, y3) = (y0, y1, y2, u)) := by show _ = _; unfold beat1; rw [if_pos ⟨rfl, hk2⟩]
     have d2 : decide (y3 < u) = true := by simpa using hk2
     go_wp2_with (at_builtin; refine wpList_append_own _ rfl _ _ 105 rfl (w.heap.size) 138 i0 (.agg #[.int .i64 0, .int .i64 0, .int .i64 0, .int .u64 0]) 4 32 HE.out.ut HE.out.info HE.out.zero HE.out.sz HE.out.by_ HE.out.cells HE.out.pos _ _ _ rfl ((HO.out.alloc _).alloc _) ⟨wr.heap.size + 1, 0, none⟩ 1 1 (Law.cellsS (y0, y1, y2, u)) rfl rfl (Law.new_fourAt _ (y0, y1, y2, u) _ (by simp)) (Law.four_one _) (by unfold maxLen; omega) (by omega) (by simp; omega) ?_)
     intro v' w2 hown2 hgrow _
     have B2 := Lib.hid (((HB.out.alloc sb (.cells #[.int .i64 y0, .int .i64 y1, .int .i64 y2, .int .u64 u] 138)).alloc (by simp; omega) (.cells #[.int .i64 y0, .int .i64 y1, .int .i64 y2, .int .u64 u] 138)).grown hgrow (by simp; omega) (fun g hg => (HO.out.lt g hg).1))
     have HO2 : Hid (Row w2 w.heap.size v' (os ++ [(y0, y1, y2, u)])) := by
      show World.ownsRow _ _ _ _ _ _ _
      rw [flatS_snoc]
      simpa using hown2
     obtain ⟨g', cap', rfl⟩ := ownsRow_succ hown2
     clear hown2 hgrow
     go_wp2_with fail
     go_roundw
     case rel => exact ⟨j + 1, by omega, by go_num, by rw [HT2.out, HX.out]; exact HO2.out, B2.out⟩
     case measure => simp [intOf]; omega
    ·have HX : Hid (beat1 y0 u (y0, y1, y2, y3) = (y0, y1, y2, y3)) := by show _ = _; unfold beat1; rw [if_neg (fun h => hk2 h.2)]
     have d2 : decide (y3 < u) = false := by simpa using hk2
     go_wp2_with (at_builtin; refine wpList_append_own _ rfl _ _ 105 rfl (w.heap.size) 138 i0 (.agg #[.int .i64 0, .int .i64 0, .int .i64 0, .int .u64 0]) 4 32 HE.out.ut HE.out.info HE.out.zero HE.out.sz HE.out.by_ HE.out.cells HE.out.pos _ _ _ rfl ((HO.out.alloc _).alloc _) ⟨wr.heap.size + 1, 0, none⟩ 1 1 (Law.cellsS (y0, y1, y2, y3)) rfl rfl (Law.new_fourAt _ (y0, y1, y2, y3) _ (by simp)) (Law.four_one _) (by unfold maxLen; omega) (by omega) (by simp; omega) ?_)
     intro v' w2 hown2 hgrow _
     have B2 := Lib.hid (((HB.out.alloc sb (.cells #[.int .i64 y0, .int .i64 y1, .int .i64 y2, .int .u64 y3] 138)).alloc (by simp; omega) (.cells #[.int .i64 y0, .int .i64 y1, .int .i64 y2, .int .u64 y3] 138)).grown hgrow (by simp; omega) (fun g hg => (HO.out.lt g hg).1))
     have HO2 : Hid (Row w2 w.heap.size v' (os ++ [(y0, y1, y2, y3)])) := by
      show World.ownsRow _ _ _ _ _ _ _
      rw [flatS_snoc]
      simpa using hown2
     obtain ⟨g', cap', rfl⟩ := ownsRow_succ hown2
     clear hown2 hgrow
     go_wp2_with fail
     go_roundw
     case rel => exact ⟨j + 1, by omega, by go_num, by rw [HT2.out, HX.out]; exact HO2.out, B2.out⟩
     case measure => simp [intOf]; omega
   ·have HX : Hid (beat1 k u (y0, y1, y2, y3) = (y0, y1, y2, y3)) := by show _ = _; unfold beat1; rw [if_neg (fun h => hk h.1)]
    have d1 : (y0 == k) = false := by simpa using hk
    go_wp2_with (at_builtin; refine wpList_append_own _ rfl _ _ 105 rfl (w.heap.size) 138 i0 (.agg #[.int .i64 0, .int .i64 0, .int .i64 0, .int .u64 0]) 4 32 HE.out.ut HE.out.info HE.out.zero HE.out.sz HE.out.by_ HE.out.cells HE.out.pos _ _ _ rfl ((HO.out.alloc _).alloc _) ⟨wr.heap.size + 1, 0, none⟩ 1 1 (Law.cellsS (y0, y1, y2, y3)) rfl rfl (Law.new_fourAt _ (y0, y1, y2, y3) _ (by simp)) (Law.four_one _) (by unfold maxLen; omega) (by omega) (by simp; omega) ?_)
    intro v' w2 hown2 hgrow _
    have B2 := Lib.hid (((HB.out.alloc sb (.cells #[.int .i64 y0, .int .i64 y1, .int .i64 y2, .int .u64 y3] 138)).alloc (by simp; omega) (.cells #[.int .i64 y0, .int .i64 y1, .int .i64 y2, .int .u64 y3] 138)).grown hgrow (by simp; omega) (fun g hg => (HO.out.lt g hg).1))
    have HO2 : Hid (Row w2 w.heap.size v' (os ++ [(y0, y1, y2, y3)])) := by
     show World.ownsRow _ _ _ _ _ _ _
     rw [flatS_snoc]
     simpa using hown2
    obtain ⟨g', cap', rfl⟩ := ownsRow_succ hown2
    clear hown2 hgrow
    go_wp2_with fail
    go_roundw
    case rel => exact ⟨j + 1, by omega, by go_num, by rw [HT2.out, HX.out]; exact HO2.out, B2.out⟩
    case measure => simp [intOf]; omega
  ·have e1 : zs.take j = zs := List.take_of_length_le (by omega)
   rw [e1] at HO
   obtain ⟨A1, c1, rfl, _⟩ := own_shape HO.out
   go_wp2_with fail
   exact bodyPost_ret (v := .tuple #[.slice A1 (beatS k u zs).length c1, .int .i64 0]) (by simp [results, Tryz.results64, go_sem]) rfl ⟨A1, c1, rfl, HO.out, HB.out⟩

end Sess
end Go.Proofs.YtohdlnefgieenaaGreat
namespace Go.Law
open Go.RowKit
def SetTo (s : Sn) (most : Int) (us ls : List Sn) (er : Int) : Prop :=
 (hasS s.1 us = true ∧ ls = put s us ∧ er = 0) ∨ (hasS s.1 us = false ∧ most ≤ (us.length : Int) ∧ ls = us ∧ er = 2) ∨ (hasS s.1 us = false ∧ (us.length : Int) < most ∧ ls = put s us ∧ er = 0)
def BeatTo (k u : Int) (us ls : List Sn) (er : Int) : Prop := (hasS k us = true ∧ ls = beatS k u us ∧ er = 0) ∨ (hasS k us = false ∧ ls = us ∧ er = 3)
end Go.Law
namespace Go.Proofs.YtohdlnefgieenaaGreat
open Go.RowKit
namespace Sess
open Go.Law
section
variable {us ls : List Sn} {A : Option Addr} {c : Nat} {w : World} {er : Int}
end
end Sess
end Go.Proofs.YtohdlnefgieenaaGreat
namespace Go.Proofs.YtohdlnefgieenaaGreat
open Go.RowKit
namespace Tick
open Door

theorem wrap_add (a b : Int) (ha : U a) (hb : U b) : (IntKind.u64.wrap (a + b) < a → sat a b = top) ∧ (a ≤ IntKind.u64.wrap (a + b) → IntKind.u64.wrap (a + b) = sat a b) := by
 unfold U at *; unfold sat
 rw [IntKind.wrap_u64]
 unfold top at *
 constructor
 ·intro h; rw [if_neg (by omega)]
 ·intro h; rw [if_pos (by omega)]; omega
theorem wrap_left (a b : Int) (ha : U a) (hb : U b) : (IntKind.u64.wrap (18446744073709551615 - a) < b → sat a b = top) ∧ (b ≤ IntKind.u64.wrap (18446744073709551615 - a) → IntKind.u64.wrap (a + b) = sat a b) := by
 unfold U at *; unfold sat
 rw [IntKind.wrap_u64, IntKind.wrap_u64]
 unfold top at *
 constructor
 ·intro h; rw [if_neg (by omega)]
 ·intro h; rw [if_pos (by omega)]; omega
theorem ret_u64 {a b : Int} (h : a = b) : Ending.returned (.int .u64 a) = .returned (.int .u64 b) := by rw [h]

set_option maxHeartbeats 400000 in
theorem add (a b : Int) (ha : U a) (hb : U b) (w : World) :
  Calls Tryz.prog 82 #[.int .u64 a, .int .u64 b] w fun e w' => e = .returned (.int .u64 (sat a b)) ∧ w = w' := by
 go_enter Tryz.func82, Tryz.ntmps82
 go_wp2
 all_goals go_ret
 ·exact ⟨ret_u64 ((wrap_add a b ha hb).1 (by assumption)).symm, rfl⟩
 ·exact ⟨ret_u64 ((wrap_add a b ha hb).2 (by assumption)), rfl⟩
set_option maxHeartbeats 400000 in
theorem refAdd (a b : Int) (ha : U a) (hb : U b) (w : World) :
  Calls Tryz.prog 27 #[.int .u64 a, .int .u64 b] w fun e w' => e = .returned (.int .u64 (sat a b)) ∧ w = w' := by
 go_enter Tryz.func27, Tryz.ntmps27
 go_wp2
 all_goals go_ret
 ·exact ⟨ret_u64 ((wrap_left a b ha hb).1 (by assumption)).symm, rfl⟩
 ·exact ⟨ret_u64 ((wrap_left a b ha hb).2 (by assumption)), rfl⟩
abbrev T (n s : Int) (c : Bool) : Value := .agg #[.int .u64 n, .int .u64 s, .bool c]
abbrev C (n s : Int) (c : Bool) : Obj := .cells #[.int .u64 n, .int .u64 s, .bool c] 50
set_option maxHeartbeats 400000 in
theorem pass (n s : Int) (c : Bool) (b : Int) (hn : U n) (hb : U b) (w : World) :
  Calls Tryz.prog 54 #[T n s c, .int .u64 b] w fun e w' => e = .returned (T (sat n b) s c) ∧ (w.alloc (C (sat n b) s c)).alloc (C (sat n b) s c) = w' := by
 go_enter Tryz.func54, Tryz.ntmps54
 go_wp2_with (go_at_call 82; refine (add _ _ hn hb _).mono ?_; rintro e w' ⟨rfl, rfl⟩)
 exact bodyPost_ret (v := T (sat n b) s c) (by simp [results, Tryz.results54, go_sem]) rfl ⟨rfl, rfl⟩
set_option maxHeartbeats 400000 in
theorem take (n s : Int) (c : Bool) (hs : U s) (w : World) :
  Calls Tryz.prog 83 #[T n s c] w fun e w' => e = .returned (.tuple #[T n (sat s 1) c, .int .u64 (sat s 1)]) ∧ ((w.alloc (C n (sat s 1) c)).alloc (C n (sat s 1) c)).drew = w' := by
 go_enter Tryz.func83, Tryz.ntmps83
 go_wp2_with (go_at_call 82; refine (add _ _ hs U1 _).mono ?_; rintro e w' ⟨rfl, rfl⟩)
 go_region
 go_wp2
 exact bodyPost_ret (v := .tuple #[T n (sat s 1) c, .int .u64 (sat s 1)]) (by simp [results, Tryz.results83, go_sem]) rfl ⟨rfl, rfl⟩
set_option maxHeartbeats 400000 in
theorem shut (n s : Int) (c : Bool) (w : World) :
  Calls Tryz.prog 52 #[T n s c] w fun e w' => e = .returned (T n s true) ∧ (w.alloc (C n s true)).alloc (C n s true) = w' := by
 go_enter Tryz.func52, Tryz.ntmps52
 go_wp2
 exact bodyPost_ret (v := T n s true) (by simp [results, Tryz.results52, go_sem]) rfl ⟨rfl, rfl⟩
end Tick
end Go.Proofs.YtohdlnefgieenaaGreat
