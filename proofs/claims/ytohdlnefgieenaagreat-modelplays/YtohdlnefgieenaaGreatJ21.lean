/-
  What slices.Clone at events and merge (layer 9) come to.
-/
import Derived.Test.YtohdlnefgieenaaGreatJ16
import Derived.Test.YtohdlnefgieenaaGreatJ19
import Derived.Lib.QuietBelow
import Derived.Deep.RegionHeld3
namespace Go.Law
theorem flatE_ne {zs : List Ev} (h : zs ≠ []) : flatE zs ≠ [] := by
 intro h0
 have := flatE_length zs
 rw [h0] at this
 simp at this
 exact h (List.eq_nil_of_length_eq_zero (by omega))
theorem own_emptyE (w : World) {base : Nat} (e : TypeId) (hb : base ≤ w.heap.size) : (w.alloc (.cells #[] e)).ownsRow base e 8 (.slice (some ⟨w.heap.size, 0, none⟩) 0 0) 0 [] :=
 ⟨rfl, .inr ⟨w.heap.size, 0, #[], rfl, hb, heap_alloc_new w _, Nat.le_refl _, Nat.zero_le _, rfl, rfl⟩⟩
end Go.Law
namespace Go.Proofs.YtohdlnefgieenaaGreat
open Go.RowKit Go.Shelf
attribute [local go_sem] Oper.semAt_some
namespace Feed
open Go.Law
@[go_sem] theorem run_nil (n c : Nat) (w : World) : Sem.run Tryz.prog (binOp .eql 41 (.slice none n c) (.slice none 0 0)) w = .ok (.bool true) w := by kernel_rfl
@[go_sem] theorem run_not_nil (a : Addr) (n c : Nat) (w : World) : Sem.run Tryz.prog (binOp .eql 41 (.slice (some a) n c) (.slice none 0 0)) w = .ok (.bool false) w := by kernel_rfl
theorem tail_seq {w : World} {lo B : Nat} {b o : Nat} {x : Ev} {xs : List Ev} (h : Seq w lo B (some ⟨b, o, none⟩) (flatE (x :: xs))) : Seq w lo B (some ⟨b, o + 8, none⟩) (flatE xs) := fun hne => by
 have e : flatE (x :: xs) = cellsE x ++ flatE xs := by simp [flatE]
 obtain ⟨b', o', h0, h1, h2, h3⟩ := h (by rw [e]; simp [cellsE])
 obtain ⟨rfl, rfl, _⟩ := by simpa using h0
 refine ⟨b, o + 8, rfl, h1, h2, fun i u hu => ?_⟩
 have := h3 (8 + i) u (by rw [e, List.getElem?_append_right (by simp [cellsE])]; simpa [cellsE] using hu)
 rwa [← Nat.add_assoc] at this
theorem tail_if {w : World} {lo B : Nat} {b o c : Nat} {x : Ev} {xs : List Ev} (h : Seq w lo B (some ⟨b, o, none⟩) (flatE (x :: xs))) (hc : xs.length + 1 ≤ c) : Seq w lo B (if c = 1 then some ⟨b, o, none⟩ else some ⟨b, o + 8, none⟩) (flatE xs) := by
 by_cases e : c = 1
 ·have : xs = [] := List.eq_nil_of_length_eq_zero (by omega)
  subst this
  exact fun h => absurd rfl h
 ·rw [if_neg e]
  exact tail_seq h
def slen : Value → Nat
 | .slice _ n _ => n
 | _ => 0
def Lists (w : World) (zs : List Ev) (e : Ending) (w' : World) : Prop := ∃ A c, e = .returned (.slice A zs.length c) ∧ zs.length ≤ c ∧ Seq w' w.heap.size w'.heap.size A (flatE zs) ∧ Below w.heap.size w w'
set_option maxHeartbeats 1000000 in
theorem clone (zs : List Ev) (A : Option Addr) (c : Nat) (w : World) (hs : Seq w 0 w.heap.size A (flatE zs)) (hl : zs.length ≤ 1000) :
  Calls Tryz.prog 99 #[.slice A zs.length c] w (Lists w zs) := by
 obtain ⟨i0, hE⟩ := RingE.elem
 have HE := Lib.hid hE
 have HS := Lib.hid hs
 clear hE hs
 cases A with
 | none =>
   have hz : zs = [] := Classical.byContradiction fun h => by
    obtain ⟨b, off, e, _⟩ := HS.out (flatE_ne h)
    cases e
   subst hz
   go_enter Tryz.func99, Tryz.ntmps99
   go_wp2_with fail
   go_ret
   exact ⟨none, 0, rfl, Nat.le_refl _, fun h => absurd rfl h, Below.refl _ _⟩
 | some a =>
   have HO := Lib.hid (own_emptyE w 63 (base := w.heap.size) (Nat.le_refl _))
   have HS1 := Lib.hid (HS.out.alloc (Nat.le_refl _) (.cells #[] 63))
   go_enter Tryz.func99, Tryz.ntmps99
   go_wp2_with (at_builtin; refine Law.wpList_append_seq _ w.heap.size 41 rfl _ _ rfl HE.out _ 0 [] rfl HO.out 0 w.heap.size (some a) zs.length c (flatE zs) rfl (flatE_length zs) HS1.out (flatE_one _) (by unfold maxLen; omega) (by omega) (by simp) ?_)
   intro v1 w1 hown hgrow
   have B1 : Below w.heap.size w w1 := ((Below.refl _ w).alloc (Nat.le_refl _) (.cells #[] 63)).grown hgrow (by simp) (fun k hk => by have h9 : w.heap.size = k := Option.some.inj hk; omega)
   have OW : w1.ownsRow w.heap.size 63 8 v1 zs.length (flatE zs) := by simpa using hown
   obtain ⟨A1, c1, rfl, hc1⟩ := own_shape OW
   have HB := Lib.hid B1
   have HW := Lib.hid OW
   clear hown hgrow B1 OW HO HS1
   go_wp2_with fail
   go_ret
   exact ⟨A1, c1, rfl, hc1, Seq.own HW.out, HB.out⟩
def Mid (w : World) (us bs : List Ev) (va vb vm : Value) (wr : World) : Prop := ∃ (xs ys dn : List Ev) (A' B' : Option Addr) (ca' cb' : Nat), va = .slice A' xs.length ca' ∧ vb = .slice B' ys.length cb' ∧ xs.length ≤ ca' ∧ ys.length ≤ cb' ∧ Seq w 0 w.heap.size A' (flatE xs) ∧ Seq w 0 w.heap.size B' (flatE ys) ∧ wr.ownsRow w.heap.size 63 8 vm dn.length (flatE dn) ∧ Below w.heap.size w wr ∧ mrg us bs = dn ++ mrg xs ys ∧ dn.length + (xs.length + ys.length) ≤ 500
set_option maxRecDepth 100000 in
set_option maxHeartbeats 4000000 in
theorem merge (us bs : List Ev) (A B : Option Addr) (ca cb : Nat) (w : World) (ha : Seq w 0 w.heap.size A (flatE us)) (hb : Seq w 0 w.heap.size B (flatE bs)) (hca : us.length ≤ ca) (hcb : bs.length ≤ cb) (hl : us.length + bs.length ≤ 500) :
  Calls Tryz.prog 100 #[.slice A us.length ca, .slice B bs.length cb] w (Lists w (mrg us bs)) := by
 obtain ⟨i0, hE⟩ := RingE.elem
 have HE := Lib.hid hE
 have HA := Lib.hid ha
 have HB := Lib.hid hb
 clear hE ha hb
 obtain ⟨n0, hn0⟩ : ∃ n : Nat, us.length + bs.length = n := ⟨_, rfl⟩
 go_enter Tryz.func100, Tryz.ntmps100
 go_wp2_with (at_make; refine wpList_make_own _ rfl _ _ 41 rfl w.heap.size 63 i0 (.agg #[.string ⟨#[]⟩, .int .i64 0, .int .i64 0, .int .i64 0, .int .i64 0, .int .i64 0, .int .i64 0, .int .u64 0]) 8 HE.out.ut HE.out.info HE.out.zero HE.out.sz .i64 .i64 _ n0 rfl rfl (by first | omega | (simp; omega)) (by rw [HE.out.by_]; omega) (by unfold maxLen; omega) (Nat.le_refl _) ?_; intro w1 hown hgrow)
 have B1 : Below w.heap.size w w1 := (Below.refl _ w).grown hgrow (Nat.le_refl _) (by simp)
 have HB1 := Lib.hid B1
 have HO1 := Lib.hid hown
 clear B1 hown hgrow
 go_loopw [0, 1, 5] (fun va vb vm wr => Mid w us bs va vb vm wr) (fun va vb _ _ => slen va + slen vb)
 case atStart => exact ⟨us, bs, [], A, B, ca, cb, rfl, rfl, hca, hcb, HA.out, HB.out, HO1.out, HB1.out, rfl, by simp; omega⟩
 case round =>
  clear HA HB HB1 HO1
  obtain ⟨xs, ys, dn, A', B', ca', cb', rfl, rfl, hca', hcb', hA, hB, hO, hBel, hM, hN⟩ := hrel
  have HA := Lib.hid hA
  have HB := Lib.hid hB
  have HO := Lib.hid hO
  have HBel := Lib.hid hBel
  have HM := Lib.hid hM
  have sz := hBel.size
  clear hA hB hO hBel hM
  cases xs with
  | nil =>
    have HM2 : Hid (mrg us bs = dn ++ ([] : List Ev) ++ ys) := by show _ = _; rw [HM.out, mrg_nil]; simp
    have HA1 := Lib.hid (HA.out.below HBel.out)
    simp only [List.length_nil] at hN
    obtain ⟨D, cd, rfl, hcd⟩ := own_shape HO.out
    go_wp2_with (first | (at_builtin; refine Law.wpList_append_seq _ w.heap.size 41 rfl _ _ rfl HE.out _ (dn.length) (flatE dn) rfl HO.out 0 w.heap.size A' _ _ (flatE ([] : List Ev)) rfl (flatE_length ([] : List Ev)) HA1.out (flatE_one _) (by unfold maxLen; first | omega | (simp; omega)) (by first | omega | (simp; omega)) (by omega) ?_; intro v1 z1 hown1 hg1; have hb1 := HBel.out.grown hg1 sz (fun k hk => (HO.out.lt k hk).1); have HBL1 := Lib.hid hb1; have HO1 := Lib.hid hown1; have HB1 := Lib.hid (HB.out.below hb1); have sz1 := hb1.size; obtain ⟨D1, cd1, hD1, hcd1⟩ := own_shape hown1; subst hD1; clear hown1 hg1 hb1) | (at_builtin; refine Law.wpList_append_seq _ w.heap.size 41 rfl _ _ rfl HE.out _ (dn.length + ([] : List Ev).length) (flatE dn ++ flatE ([] : List Ev)) rfl HO1.out 0 w.heap.size B' _ _ (flatE ys) rfl (flatE_length ys) HB1.out (flatE_one _) (by unfold maxLen; first | omega | (simp; omega)) (by first | omega | (simp; omega)) (by omega) ?_; intro v2 z2 hown2 hg2; have hb2 := HBL1.out.grown hg2 sz1 (fun k hk => (HO1.out.lt k hk).1); have HBL2 := Lib.hid hb2; have HO2 := Lib.hid hown2; obtain ⟨D2, cd2, hD2, hcd2⟩ := own_shape hown2; subst hD2; clear hown2 hg2 hb2))
    go_ret
    refine ⟨D2, cd2, ?_, ?_, ?_, HBL2.out⟩
    ·rw [HM2.out]; simp
    ·rw [HM2.out]; simpa using hcd2
    ·rw [HM2.out, flatE_app, flatE_app]; exact Seq.own HO2.out
  | cons x xs =>
    cases ys with
    | nil =>
      have HM2 : Hid (mrg us bs = dn ++ (x :: xs) ++ ([] : List Ev)) := by show _ = _; rw [HM.out, mrg_nil']; simp
      have HA1 := Lib.hid (HA.out.below HBel.out)
      simp only [List.length_cons, List.length_nil] at hN
      obtain ⟨D, cd, rfl, hcd⟩ := own_shape HO.out
      go_wp2_with (first | (at_builtin; refine Law.wpList_append_seq _ w.heap.size 41 rfl _ _ rfl HE.out _ (dn.length) (flatE dn) rfl HO.out 0 w.heap.size A' _ _ (flatE (x :: xs)) rfl (flatE_length (x :: xs)) HA1.out (flatE_one _) (by unfold maxLen; first | omega | (simp; omega)) (by first | omega | (simp; omega)) (by omega) ?_; intro v1 z1 hown1 hg1; have hb1 := HBel.out.grown hg1 sz (fun k hk => (HO.out.lt k hk).1); have HBL1 := Lib.hid hb1; have HO1 := Lib.hid hown1; have HB1 := Lib.hid (HB.out.below hb1); have sz1 := hb1.size; obtain ⟨D1, cd1, hD1, hcd1⟩ := own_shape hown1; subst hD1; clear hown1 hg1 hb1) | (at_builtin; refine Law.wpList_append_seq _ w.heap.size 41 rfl _ _ rfl HE.out _ (dn.length + (x :: xs).length) (flatE dn ++ flatE (x :: xs)) rfl HO1.out 0 w.heap.size B' _ _ (flatE ([] : List Ev)) rfl (flatE_length ([] : List Ev)) HB1.out (flatE_one _) (by unfold maxLen; first | omega | (simp; omega)) (by first | omega | (simp; omega)) (by omega) ?_; intro v2 z2 hown2 hg2; have hb2 := HBL1.out.grown hg2 sz1 (fun k hk => (HO1.out.lt k hk).1); have HBL2 := Lib.hid hb2; have HO2 := Lib.hid hown2; obtain ⟨D2, cd2, hD2, hcd2⟩ := own_shape hown2; subst hD2; clear hown2 hg2 hb2))
      go_ret
      refine ⟨D2, cd2, ?_, ?_, ?_, HBL2.out⟩
      ·rw [HM2.out]; simp
      ·rw [HM2.out]; simpa using hcd2
      ·rw [HM2.out, flatE_app, flatE_app]; exact Seq.own HO2.out
    | cons y ys =>
      obtain ⟨ga, oa, rfl, _, hga, p0, p1, p2, p3, p4, p5, p6, p7⟩ := (HA.out.below HBel.out).ev (i := 0) (by simp)
      obtain ⟨gb, ob, rfl, _, hgb, q0, q1, q2, q3, q4, q5, q6, q7⟩ := (HB.out.below HBel.out).ev (i := 0) (by simp)
      simp only [List.getElem_cons_zero, Nat.zero_mul, Nat.add_zero] at p0 p1 p2 p3 p4 p5 p6 p7 q0 q1 q2 q3 q4 q5 q6 q7
      have lga : ga < wr.heap.size := by omega
      have lgb : gb < wr.heap.size := by omega
      simp only [List.length_cons] at hca' hcb' hN
      obtain ⟨D, cd, rfl, hcd⟩ := own_shape HO.out
      simp only [List.length_cons]
      go_wp2_with fail
      go_quiet (fail)
      by_cases hlt : y.sq < x.sq
      ·skip
       have d2 : decide (y.sq < x.sq) = true := by simp; omega
       have HM2 : Hid (mrg us bs = (dn ++ [y]) ++ mrg (x :: xs) ys) := by show _ = _; rw [HM.out, mrg_cons, if_pos hlt]; simp
       go_wp2_with fail
       have hbq : Below wr.heap.size wr (wr.drewN nq) := Law.below_drewN (Below.refl _ wr) nq
       have HO2 := Lib.hid (own_below HO.out hbq)
       have HB2 := Lib.hid (HBel.out.trans (hbq.mono sz))
       have hz2 : w.heap.size ≤ (wr.drewN nq).heap.size := sz
       have lg2 : gb < (wr.drewN nq).heap.size := lgb
       have r0 := (hbq.cell (p := ⟨gb, ob, none⟩) lgb).trans q0
       have r1 := (hbq.cell (p := ⟨gb, ob + 1, none⟩) lgb).trans q1
       have r2 := (hbq.cell (p := ⟨gb, ob + 2, none⟩) lgb).trans q2
       have r3 := (hbq.cell (p := ⟨gb, ob + 3, none⟩) lgb).trans q3
       have r4 := (hbq.cell (p := ⟨gb, ob + 4, none⟩) lgb).trans q4
       have r5 := (hbq.cell (p := ⟨gb, ob + 5, none⟩) lgb).trans q5
       have r6 := (hbq.cell (p := ⟨gb, ob + 6, none⟩) lgb).trans q6
       have r7 := (hbq.cell (p := ⟨gb, ob + 7, none⟩) lgb).trans q7
       clear hbq p0 p1 p2 p3 p4 p5 p6 p7 q0 q1 q2 q3 q4 q5 q6 q7 HO HBel HM d2 hlt
       generalize wr.drewN nq = W2 at *
       have h1y : (1 : Int) ≤ (ys.length : Int) + 1 := by omega
       have O2 := Lib.hid (HO2.out.alloc (.cells y.box 63))
       have s0 := (World.cell?_alloc_lt W2 (.cells y.box 63) ⟨gb, ob, none⟩ lg2).trans r0
       have s1 := (World.cell?_alloc_lt W2 (.cells y.box 63) ⟨gb, ob + 1, none⟩ lg2).trans r1
       have s2 := (World.cell?_alloc_lt W2 (.cells y.box 63) ⟨gb, ob + 2, none⟩ lg2).trans r2
       have s3 := (World.cell?_alloc_lt W2 (.cells y.box 63) ⟨gb, ob + 3, none⟩ lg2).trans r3
       have s4 := (World.cell?_alloc_lt W2 (.cells y.box 63) ⟨gb, ob + 4, none⟩ lg2).trans r4
       have s5 := (World.cell?_alloc_lt W2 (.cells y.box 63) ⟨gb, ob + 5, none⟩ lg2).trans r5
       have s6 := (World.cell?_alloc_lt W2 (.cells y.box 63) ⟨gb, ob + 6, none⟩ lg2).trans r6
       have s7 := (World.cell?_alloc_lt W2 (.cells y.box 63) ⟨gb, ob + 7, none⟩ lg2).trans r7
       have HS : Hid (Seq w 0 w.heap.size (if cb' = 1 then some ⟨gb, ob, none⟩ else some ⟨gb, ob + 8, none⟩) (flatE ys)) := tail_if HB.out hcb'
       by_cases hc1 : cb' = 1
       ·rw [if_pos hc1] at HS
        go_region_law (refine Law.step_append_at (base := w.heap.size) (t := 41) rfl (.tmp 29) (.tmp 33) rfl HE.out (.slice D dn.length cd) dn.length (flatE dn) (by simp [Act.eval]) (by exact O2.out) ⟨W2.heap.size, 0, none⟩ 1 1 (cellsE y) (by simp [Act.eval]) (by rfl) (by exact new_E W2 y _ rfl) (one_E y) (by unfold maxLen; omega) (by omega) (by show w.heap.size ≤ (W2.alloc _).heap.size; simp; omega) ?_; intro v' w1 hown hg hv'; have OW := Lib.hid hown; have G := Lib.hid hg; clear hown hg hv')
        all_goals
         have B3 := Lib.hid ((HB2.out.alloc hz2 (.cells y.box 63)).drew.grown G.out (by simp; omega) (fun k hk => (HO2.out.lt k hk).1))
         simp only [List.getElem_toArray, List.getElem_cons_zero, List.getElem_cons_succ, Act.put, List.setIfInBounds_toArray, List.set_cons_zero, List.set_cons_succ]
         go_wp2_with fail
         go_roundw
         case rel => exact ⟨x :: xs, ys, dn ++ [y], _, _, _, _, rfl, rfl, by first | (simp only [List.length_cons]; omega) | omega, by first | (simp only [List.length_cons]; omega) | omega, HA.out, HS.out, by rw [flatE_snoc, List.length_append]; exact OW.out, B3.out, HM2.out, by simp; omega⟩
         case measure => simp [slen]
       ·rw [if_neg hc1] at HS
        go_region_law (refine Law.step_append_at (base := w.heap.size) (t := 41) rfl (.tmp 29) (.tmp 33) rfl HE.out (.slice D dn.length cd) dn.length (flatE dn) (by simp [Act.eval]) (by exact O2.out) ⟨W2.heap.size, 0, none⟩ 1 1 (cellsE y) (by simp [Act.eval]) (by rfl) (by exact new_E W2 y _ rfl) (one_E y) (by unfold maxLen; omega) (by omega) (by show w.heap.size ≤ (W2.alloc _).heap.size; simp; omega) ?_; intro v' w1 hown hg hv'; have OW := Lib.hid hown; have G := Lib.hid hg; clear hown hg hv')
        all_goals
         have B3 := Lib.hid ((HB2.out.alloc hz2 (.cells y.box 63)).drew.grown G.out (by simp; omega) (fun k hk => (HO2.out.lt k hk).1))
         simp only [List.getElem_toArray, List.getElem_cons_zero, List.getElem_cons_succ, Act.put, List.setIfInBounds_toArray, List.set_cons_zero, List.set_cons_succ]
         go_wp2_with fail
         go_roundw
         case rel => exact ⟨x :: xs, ys, dn ++ [y], _, _, _, _, rfl, rfl, by first | (simp only [List.length_cons]; omega) | omega, by first | (simp only [List.length_cons]; omega) | omega, HA.out, HS.out, by rw [flatE_snoc, List.length_append]; exact OW.out, B3.out, HM2.out, by simp; omega⟩
         case measure => simp [slen]
      ·skip
       have d2 : decide (y.sq < x.sq) = false := by simp; omega
       have HM2 : Hid (mrg us bs = (dn ++ [x]) ++ mrg xs (y :: ys)) := by show _ = _; rw [HM.out, mrg_cons, if_neg hlt]; simp
       go_wp2_with fail
       have hbq : Below wr.heap.size wr (wr.drewN nq) := Law.below_drewN (Below.refl _ wr) nq
       have HO2 := Lib.hid (own_below HO.out hbq)
       have HB2 := Lib.hid (HBel.out.trans (hbq.mono sz))
       have hz2 : w.heap.size ≤ (wr.drewN nq).heap.size := sz
       have lg2 : ga < (wr.drewN nq).heap.size := lga
       have r0 := (hbq.cell (p := ⟨ga, oa, none⟩) lga).trans p0
       have r1 := (hbq.cell (p := ⟨ga, oa + 1, none⟩) lga).trans p1
       have r2 := (hbq.cell (p := ⟨ga, oa + 2, none⟩) lga).trans p2
       have r3 := (hbq.cell (p := ⟨ga, oa + 3, none⟩) lga).trans p3
       have r4 := (hbq.cell (p := ⟨ga, oa + 4, none⟩) lga).trans p4
       have r5 := (hbq.cell (p := ⟨ga, oa + 5, none⟩) lga).trans p5
       have r6 := (hbq.cell (p := ⟨ga, oa + 6, none⟩) lga).trans p6
       have r7 := (hbq.cell (p := ⟨ga, oa + 7, none⟩) lga).trans p7
       clear hbq p0 p1 p2 p3 p4 p5 p6 p7 q0 q1 q2 q3 q4 q5 q6 q7 HO HBel HM d2 hlt
       generalize wr.drewN nq = W2 at *
       have h1y : (1 : Int) ≤ (xs.length : Int) + 1 := by omega
       have O2 := Lib.hid (HO2.out.alloc (.cells x.box 63))
       have s0 := (World.cell?_alloc_lt W2 (.cells x.box 63) ⟨ga, oa, none⟩ lg2).trans r0
       have s1 := (World.cell?_alloc_lt W2 (.cells x.box 63) ⟨ga, oa + 1, none⟩ lg2).trans r1
       have s2 := (World.cell?_alloc_lt W2 (.cells x.box 63) ⟨ga, oa + 2, none⟩ lg2).trans r2
       have s3 := (World.cell?_alloc_lt W2 (.cells x.box 63) ⟨ga, oa + 3, none⟩ lg2).trans r3
       have s4 := (World.cell?_alloc_lt W2 (.cells x.box 63) ⟨ga, oa + 4, none⟩ lg2).trans r4
       have s5 := (World.cell?_alloc_lt W2 (.cells x.box 63) ⟨ga, oa + 5, none⟩ lg2).trans r5
       have s6 := (World.cell?_alloc_lt W2 (.cells x.box 63) ⟨ga, oa + 6, none⟩ lg2).trans r6
       have s7 := (World.cell?_alloc_lt W2 (.cells x.box 63) ⟨ga, oa + 7, none⟩ lg2).trans r7
       have HS : Hid (Seq w 0 w.heap.size (if ca' = 1 then some ⟨ga, oa, none⟩ else some ⟨ga, oa + 8, none⟩) (flatE xs)) := tail_if HA.out hca'
       by_cases hc1 : ca' = 1
       ·rw [if_pos hc1] at HS
        go_region_law (refine Law.step_append_at (base := w.heap.size) (t := 41) rfl (.tmp 37) (.tmp 41) rfl HE.out (.slice D dn.length cd) dn.length (flatE dn) (by simp [Act.eval]) (by exact O2.out) ⟨W2.heap.size, 0, none⟩ 1 1 (cellsE x) (by simp [Act.eval]) (by rfl) (by exact new_E W2 x _ rfl) (one_E x) (by unfold maxLen; omega) (by omega) (by show w.heap.size ≤ (W2.alloc _).heap.size; simp; omega) ?_; intro v' w1 hown hg hv'; have OW := Lib.hid hown; have G := Lib.hid hg; clear hown hg hv')
        all_goals
         have B3 := Lib.hid ((HB2.out.alloc hz2 (.cells x.box 63)).drew.grown G.out (by simp; omega) (fun k hk => (HO2.out.lt k hk).1))
         simp only [List.getElem_toArray, List.getElem_cons_zero, List.getElem_cons_succ, Act.put, List.setIfInBounds_toArray, List.set_cons_zero, List.set_cons_succ]
         go_wp2_with fail
         go_roundw
         case rel => exact ⟨xs, y :: ys, dn ++ [x], _, _, _, _, rfl, rfl, by first | (simp only [List.length_cons]; omega) | omega, by first | (simp only [List.length_cons]; omega) | omega, HS.out, HB.out, by rw [flatE_snoc, List.length_append]; exact OW.out, B3.out, HM2.out, by simp; omega⟩
         case measure => simp [slen]
       ·rw [if_neg hc1] at HS
        go_region_law (refine Law.step_append_at (base := w.heap.size) (t := 41) rfl (.tmp 37) (.tmp 41) rfl HE.out (.slice D dn.length cd) dn.length (flatE dn) (by simp [Act.eval]) (by exact O2.out) ⟨W2.heap.size, 0, none⟩ 1 1 (cellsE x) (by simp [Act.eval]) (by rfl) (by exact new_E W2 x _ rfl) (one_E x) (by unfold maxLen; omega) (by omega) (by show w.heap.size ≤ (W2.alloc _).heap.size; simp; omega) ?_; intro v' w1 hown hg hv'; have OW := Lib.hid hown; have G := Lib.hid hg; clear hown hg hv')
        all_goals
         have B3 := Lib.hid ((HB2.out.alloc hz2 (.cells x.box 63)).drew.grown G.out (by simp; omega) (fun k hk => (HO2.out.lt k hk).1))
         simp only [List.getElem_toArray, List.getElem_cons_zero, List.getElem_cons_succ, Act.put, List.setIfInBounds_toArray, List.set_cons_zero, List.set_cons_succ]
         go_wp2_with fail
         go_roundw
         case rel => exact ⟨xs, y :: ys, dn ++ [x], _, _, _, _, rfl, rfl, by first | (simp only [List.length_cons]; omega) | omega, by first | (simp only [List.length_cons]; omega) | omega, HS.out, HB.out, by rw [flatE_snoc, List.length_append]; exact OW.out, B3.out, HM2.out, by simp; omega⟩
         case measure => simp [slen]
end Feed
end Go.Proofs.YtohdlnefgieenaaGreat
namespace Go.Law
open Go.RowKit Go.ChangeShapes Go.WideShapes Go.ChangeAt
section
variable {α : Type} (cells : α → List Value) {sz : Nat} (hc : ∀ q, (cells q).length = sz)
include hc
theorem open_rowsT {H : Type} {enc : TypeId × Value → H} {P : Program} {t e : TypeId} {Good : α → Prop} (ht : P.underlying t = some (.slice e)) (ce : P.cellsOf e = sz) (hsz : 0 < sz)
  {W : World} {base fuel0 : Nat} {sp : Nat → Bool} {hd : Bool} {cs0 : List Value} {x0 : DataW H × List MemPlace}
  (dec : ∀ (fuel : Nat) (cs : List Value) (x : DataW H × List MemPlace), DataW.trod enc P W base sp hd fuel e cs = some x → ∃ q : α, cs = cells q ∧ Good q)
  (hf : DataW.trod enc P W base sp hd fuel0 t cs0 = some x0) :
  ∃ (A : Option Addr) (c : Nat) (l : List α), cs0 = [.slice A l.length c] ∧ l.length ≤ c ∧ Seq W 0 W.heap.size A (l.flatMap cells) ∧ l.length ≤ maxLen ∧ ∀ q ∈ l, Good q := by
 rcases Go.Deep.open_slice ht hf with ⟨hcs, _⟩ | ⟨x, n, c, m, n', D, Pl, hcs, _, hl, hmx, hm, hdp, hx⟩
 ·subst hcs
  exact ⟨none, 0, [], rfl, Nat.le_refl _, fun h => absurd rfl h, by simp, fun _ h => by cases h⟩
 ·subst hcs
  have hlm : n ≤ m := by rw [hm]; split <;> omega
  obtain ⟨b, off, spot⟩ := x
  have hsp : 0 < n → spot = none := fun hn => by
   obtain ⟨cs', h1, h2⟩ := hx 0 (by omega)
   rw [ce] at h1
   obtain ⟨_, hlen, hcell⟩ := World.cells?_some h1
   have e0 := hcell 0 (by omega)
   rw [Go.Deep.add_add, List.getElem?_eq_getElem (by omega)] at e0
   have := World.cell?_spot e0
   simpa [Addr.add] using this
  have each : ∀ i, i < n → spot = none ∧ b < W.heap.size ∧ ∃ q : α, Good q ∧ ∀ j u, (cells q)[j]? = some u → W.cell? ⟨b, off + i * sz + j, none⟩ = some u := fun i hi => by
   obtain ⟨cs', h1, h2⟩ := hx i (by omega)
   rw [ce] at h1
   obtain ⟨_, hlen, hcell⟩ := World.cells?_some h1
   obtain ⟨q, rfl, hg⟩ := dec _ _ _ h2
   have hspot : spot = none := hsp (by omega)
   subst hspot
   have hj : ∀ j u, (cells q)[j]? = some u → W.cell? ⟨b, off + i * sz + j, none⟩ = some u := fun j u hu => by
    have hjl : j < sz := by have := (List.getElem?_eq_some_iff.1 hu).1; rwa [hc] at this
    have e0 := hcell j hjl
    rw [Go.Deep.add_add, add_plainR, hu, ← Nat.add_assoc] at e0
    exact e0
   refine ⟨rfl, ?_, q, hg, hj⟩
   have h0 : (cells q)[0]? = some ((cells q)[0]'(by rw [hc]; exact hsz)) := List.getElem?_eq_getElem _
   exact World.block_lt_of_cell? W _ (hj 0 _ h0)
  have : ∃ g : Nat → Option α, ∀ i, i < n → ∃ q, g i = some q ∧ Good q ∧ ∀ j u, (cells q)[j]? = some u → W.cell? ⟨b, off + i * sz + j, none⟩ = some u := by
   refine ⟨fun i => if h : i < n then some (Classical.choose (each i h).2.2) else none, fun i hi => ?_⟩
   simp only [hi, dif_pos]
   exact ⟨_, rfl, Classical.choose_spec (each i hi).2.2⟩
  obtain ⟨g, hg⟩ := this
  have hmap : ∃ l : List α, l.length = n ∧ ∀ i q, l[i]? = some q → Good q ∧ ∀ j u, (cells q)[j]? = some u → W.cell? ⟨b, off + i * sz + j, none⟩ = some u := by
   clear hl hmx hm hx hlm each hf hsp hdp
   induction n with
   | zero => exact ⟨[], rfl, fun i q h => by simp at h⟩
   | succ n ih =>
     obtain ⟨l, hl, hq⟩ := ih (fun i hi => hg i (by omega))
     obtain ⟨q, _, hG, hQ⟩ := hg n (by omega)
     refine ⟨l ++ [q], by simp [hl], fun i q' h => ?_⟩
     rcases Nat.lt_or_ge i n with h1 | h1
     ·rw [List.getElem?_append_left (by omega)] at h
      exact hq i q' h
     ·rw [List.getElem?_append_right (by omega)] at h
      have hi : i = n := by
       have := (List.getElem?_eq_some_iff.1 h).1
       simp at this; omega
      subst hi
      simp [hl] at h
      subst h
      exact ⟨hG, hQ⟩
  obtain ⟨l, hll, hlq⟩ := hmap
  subst hll
  refine ⟨some ⟨b, off, spot⟩, c, l, rfl, by omega, fun hne => ?_, by omega, fun q hq => ?_⟩
  ·have hn : 0 < l.length := by
    rcases Nat.eq_zero_or_pos l.length with h0 | h0
    ·rw [List.eq_nil_of_length_eq_zero h0] at hne; simp at hne
    ·exact h0
   obtain ⟨hsp', hb, _⟩ := each 0 hn
   subst hsp'
   refine ⟨b, off, rfl, Nat.zero_le _, hb, fun i u hu => ?_⟩
   have hi : i < l.length * sz := by
    have := (List.getElem?_eq_some_iff.1 hu).1
    rwa [rows_length cells hc] at this
   have hq : i / sz < l.length := (Nat.div_lt_iff_lt_mul hsz).2 hi
   have hj : i % sz < sz := Nat.mod_lt _ hsz
   have hdm : i / sz * sz + i % sz = i := by rw [Nat.mul_comm]; exact Nat.div_add_mod i sz
   have h1 := rows_at cells hc (List.getElem?_eq_getElem hq) hj
   rw [hdm, hu] at h1
   have h2 := (hlq _ _ (List.getElem?_eq_getElem hq)).2 (i % sz) u h1.symm
   rwa [Nat.add_assoc, hdm] at h2
  ·obtain ⟨i, hi, rfl⟩ := List.getElem_of_mem hq
   exact (hlq i _ (List.getElem?_eq_getElem hi)).1
end
structure RowV (α : Type) where
 A : Option Addr
 c : Nat
 xs : List α
def cellsR {α : Type} (q : RowV α) : List Value := [.slice q.A q.xs.length q.c]
section
variable {H : Type} {enc : TypeId × Value → H} {P : Program} {W : World} {base : Nat} {sp : Nat → Bool} {hd : Bool} {fuel : Nat} {cs : List Value} {x : DataW H × List MemPlace}
end
end Go.Law
namespace Go.Proofs.YtohdlnefgieenaaGreat
open Go.RowKit Go.Shelf
attribute [local go_sem] Oper.semAt_some
namespace Feed
open Go.Law
structure Rows (w : World) (A : Option Addr) (l : List (RowV Ev)) : Prop where
 seq : Seq w 0 w.heap.size A (l.flatMap cellsR)
 row : ∀ q ∈ l, Seq w 0 w.heap.size q.A (flatE q.xs)
 cap : ∀ q ∈ l, q.xs.length ≤ q.c
theorem Rows.below {w w' : World} {A : Option Addr} {l : List (RowV Ev)} (h : Rows w A l) (hb : Below w.heap.size w w') : Rows w' A l :=
 ⟨(h.seq.below hb).more hb.size, fun q hq => ((h.row q hq).below hb).more hb.size, h.cap⟩
theorem rows_len (l : List (RowV Ev)) : (l.flatMap cellsR).length = l.length := by rw [rows_length (cells := cellsR) (sz := 1) (fun _ => rfl)]; omega
theorem rows_take (l : List (RowV Ev)) (i : Nat) : (l.take i).flatMap cellsR = (l.flatMap cellsR).take i := by
 induction l generalizing i with
 | nil => simp
 | cons q r ih =>
   cases i with
   | zero => simp
   | succ i => simp [cellsR, ih]
theorem rows_drop (l : List (RowV Ev)) (i : Nat) : (l.drop i).flatMap cellsR = (l.flatMap cellsR).drop i := by
 induction l generalizing i with
 | nil => simp
 | cons q r ih =>
   cases i with
   | zero => simp
   | succ i => simp [cellsR, ih]
theorem Rows.at {w : World} {A : Option Addr} {l : List (RowV Ev)} (h : Rows w A l) {i : Nat} (hi : i < l.length) : ∃ b off, A = some ⟨b, off, none⟩ ∧ b < w.heap.size ∧ w.cell? ⟨b, off + i, none⟩ = some (.slice l[i].A l[i].xs.length l[i].c) := by
 obtain ⟨b, off, hA, _, h2, hc⟩ := Seq.row (cells := cellsR) (fun _ => rfl) (by decide : 0 < 1) h.seq hi
 exact ⟨b, off, hA, h2, by simpa using hc 0 _ rfl⟩
theorem Rows.take {w : World} {A : Option Addr} {l : List (RowV Ev)} (h : Rows w A l) (i : Nat) : Rows w A (l.take i) :=
 ⟨fun hne => by
  rw [rows_take] at hne ⊢
  obtain ⟨b, o, e, h1, h2, h3⟩ := h.seq (by intro h0; rw [h0] at hne; simp at hne)
  exact ⟨b, o, e, h1, h2, fun j u hu => h3 j u (by rw [List.getElem?_take] at hu; split at hu; exact hu; cases hu)⟩, fun q hq => h.row q (List.mem_of_mem_take hq), fun q hq => h.cap q (List.mem_of_mem_take hq)⟩
theorem Rows.drop {w : World} {b o : Nat} {l : List (RowV Ev)} (h : Rows w (some ⟨b, o, none⟩) l) (i : Nat) : Rows w (some ⟨b, o + i, none⟩) (l.drop i) :=
 ⟨fun hne => by
  rw [rows_drop] at hne ⊢
  obtain ⟨b', o', e, h1, h2, h3⟩ := h.seq (by intro h0; rw [h0] at hne; simp at hne)
  obtain ⟨rfl, rfl, _⟩ := by simpa using e
  exact ⟨b, o + i, rfl, h1, h2, fun j u hu => by
   have := h3 (i + j) u (by rw [List.getElem?_drop] at hu; exact hu)
   rwa [← Nat.add_assoc] at this⟩, fun q hq => h.row q (List.mem_of_mem_drop hq), fun q hq => h.cap q (List.mem_of_mem_drop hq)⟩
def evs (l : List (RowV Ev)) : List (List Ev) := l.map (·.xs)
theorem evs_take (l : List (RowV Ev)) (i : Nat) : evs (l.take i) = (evs l).take i := List.map_take ..
theorem evs_drop (l : List (RowV Ev)) (i : Nat) : evs (l.drop i) = (evs l).drop i := List.map_drop ..
theorem total_take (l : List (List Ev)) (i : Nat) : total (l.take i) + total (l.drop i) = total l := by rw [← total_app, List.take_append_drop]
theorem all_len (l : List (List Ev)) : (all l).length = total l := all_length _ l (Nat.le_refl _)
set_option maxRecDepth 100000 in
set_option maxHeartbeats 4000000 in
theorem mergeAll : ∀ (n : Nat) (l : List (RowV Ev)) (A : Option Addr) (c : Nat) (w : World), l.length ≤ n → Rows w A l → l.length ≤ c → total (evs l) ≤ 500 → l.length ≤ 1000 →
  Calls Tryz.prog 75 #[.slice A l.length c] w (Lists w (all (evs l))) := by
 intro n
 induction n with
 | zero =>
   intro l A c w hn _ _ _ _
   obtain rfl := List.eq_nil_of_length_eq_zero (by omega : l.length = 0)
   go_enter Tryz.func75, Tryz.ntmps75
   go_wp2_with fail
   go_ret
   exact ⟨none, 0, rfl, Nat.le_refl _, fun h => absurd rfl h, Below.refl _ _⟩
 | succ n ih =>
   intro l A c w hn hR hc ht hl
   rcases l with _ | ⟨q, _ | ⟨q2, r⟩⟩
   ·exact ih [] A c w (Nat.zero_le _) hR hc ht hl
   ·have HR := Lib.hid hR
    obtain ⟨b, o, rfl, hb, c0⟩ := hR.at (i := 0) (by simp)
    simp only [List.getElem_cons_zero, Nat.add_zero] at c0
    have HE : Hid (all (evs [q]) = q.xs) := all_one q.xs
    have hq : q.xs.length ≤ 500 := by simpa [evs, total] using ht
    clear ih hR ht
    go_enter Tryz.func75, Tryz.ntmps75
    go_wp2_with fail
    refine (clone q.xs q.A q.c w (HR.out.row q (by simp)) (by omega)).mono ?_
    rintro e w1 ⟨A1, c1, rfl, hc1, hs, hb1⟩
    have HS := Lib.hid hs
    have HB := Lib.hid hb1
    clear hs hb1
    go_wp2_with fail
    go_ret
    exact ⟨A1, c1, by rw [HE.out]; rfl, by rw [HE.out]; exact hc1, by rw [HE.out]; exact HS.out, HB.out⟩
   ·obtain ⟨b, o, rfl, hb, hcc⟩ := hR.at (i := 0) (by simp)
    clear hcc
    obtain ⟨h, hh⟩ : ∃ h : Nat, (q :: q2 :: r).length / 2 = h := ⟨_, rfl⟩
    have hlen : 2 ≤ (q :: q2 :: r).length := by simp
    generalize q :: q2 :: r = l at *
    have h1 : 1 ≤ h := by omega
    have h2 : h < l.length := by omega
    have HH : Hid ((l.length : Int) / 2 = (h : Int)) := by show _ = _; omega
    have HE := Lib.hid (all_half (evs l) h)
    have htt := total_take (evs l) h
    rw [← evs_take, ← evs_drop] at htt
    have HI1 : Hid (∀ w', Below w.heap.size w w' → Calls Tryz.prog 75 #[.slice (some ⟨b, o, none⟩) (l.take h).length c] w' (Lists w' (all (evs (l.take h))))) := fun w' hb' => ih (l.take h) _ c w' (by simp; omega) ((hR.below hb').take h) (by simp; omega) (by omega) (by simp; omega)
    have HI2 : Hid (∀ w', Below w.heap.size w w' → Calls Tryz.prog 75 #[.slice (some ⟨b, o + h, none⟩) (l.drop h).length (c - h)] w' (Lists w' (all (evs (l.drop h))))) := fun w' hb' => ih (l.drop h) _ (c - h) w' (by simp; omega) ((hR.below hb').drop h) (by simp; omega) (by omega) (by simp; omega)
    have e1 : (l.take h).length = h := by simp; omega
    have e2 : (l.drop h).length = l.length - h := by simp
    rw [e1] at HI1
    rw [e2] at HI2
    have hL1 := Lib.hid (all_len (evs (l.take h)))
    have hL2 := Lib.hid (all_len (evs (l.drop h)))
    rw [evs_take] at HI1 hL1 htt
    rw [evs_drop] at HI2 hL2 htt
    clear ih hR hh
    generalize (evs l).take h = L1 at *
    generalize (evs l).drop h = L2 at *
    generalize evs l = L at *
    have hl500 : total L1 + total L2 ≤ 500 := by omega
    clear htt ht hn
    go_enter Tryz.func75, Tryz.ntmps75
    have d0 : ((l.length : Int) == 0) = false := by rw [beq_eq_false_iff_ne]; omega
    have d1 : ((l.length : Int) == 1) = false := by rw [beq_eq_false_iff_ne]; omega
    go_wp2_with fail
    rw [HH.out]
    have hch : ¬ c = h := by omega
    have hi1 : (h : Int) ≤ (c : Int) := by omega
    have hi2 : (h : Int) ≤ (l.length : Int) := by omega
    have hi3 : h ≤ c := by omega
    have hi4 : h ≤ l.length := by omega
    have hbd : Below w.heap.size w w.drew := Law.below_drewN (Below.refl _ w) 1
    have HBD := Lib.hid hbd
    have szd : w.heap.size ≤ w.drew.heap.size := Nat.le_refl _
    clear hbd HH
    refine wp_region_held_drew (S := fun _ => True) (by kernel_rfl) trivial (fun hS0 => ?_)
    refine Go.Law.tk 0 ⟨some 17, .move (.tmp 0), _, _, _, _⟩ (v := .slice (some ⟨b, o, none⟩) l.length c) hS0 ?_ ?_
    ·intro w' hSw
     go_simp
    try simp only [Go.Law.pz]
    refine Go.Law.tk 1 ⟨some 18, .move (.tmp 3), _, _, _, _⟩ (v := .int .i64 (h : Int)) hS0 ?_ ?_
    ·intro w' hSw
     go_simp
    try simp only [Go.Law.pz]
    refine Go.Law.tk 2 ⟨some 19, .slice 89 (.tmp 17) none (some (.tmp 18)) none, _, _, _, _⟩ (v := .slice (some ⟨b, o, none⟩) h c) hS0 ?_ ?_
    ·intro w' hSw
     go_simp; (try (first | omega | (simp; omega)))
    try simp only [Go.Law.pz]
    refine Go.Law.tk 4 ⟨some 21, .move (.tmp 0), _, _, _, _⟩ (v := .slice (some ⟨b, o, none⟩) l.length c) hS0 ?_ ?_
    ·intro w' hSw
     go_simp
    try simp only [Go.Law.pz]
    refine Go.Law.tk 5 ⟨some 22, .move (.tmp 3), _, _, _, _⟩ (v := .int .i64 (h : Int)) hS0 ?_ ?_
    ·intro w' hSw
     go_simp
    try simp only [Go.Law.pz]
    refine Go.Law.tk 6 ⟨some 23, .slice 89 (.tmp 21) (some (.tmp 22)) none none, _, _, _, _⟩ (v := .slice (some ⟨b, o + h, none⟩) (l.length - h) (c - h)) hS0 ?_ ?_
    ·intro w' hSw
     go_simp; (try (first | omega | (simp; omega)))
    try simp only [Go.Law.pz]
    generalize w.drew = wd at *
    refine wpAnyH_ready (rs := [3]) (by kernel_rfl) (by simp) ?_
    refine AllReadyH.cons (o := ⟨some 20, .call { callee := .value (.func 75), args := #[.tmp 19], argTypes := _ }, _, _, _, _⟩) rfl (fun K hK => ?_) AllReadyH.nil
    go_simp
    refine Calls.mono (HI1.out _ HBD.out) ?_
    rintro e w1 ⟨A1, c1, rfl, hc1, hs, hb1⟩
    have S1 := Lib.hid hs
    have B1 := Lib.hid (HBD.out.trans (hb1.mono szd))
    have sz1 := hb1.size
    clear hs hb1
    go_wp2_with fail
    refine hK.out _ _ trivial (fun hS1 => ?_)
    clear hK K
    try simp only [Go.Law.pz]
    refine wpAnyH_ready (rs := [7]) (by kernel_rfl) (by simp) ?_
    refine AllReadyH.cons (o := ⟨some 24, .call { callee := .value (.func 75), args := #[.tmp 23], argTypes := _ }, _, _, _, _⟩) rfl (fun K hK => ?_) AllReadyH.nil
    go_simp
    refine Calls.mono (HI2.out _ B1.out) ?_
    rintro e w2 ⟨A2, c2, rfl, hc2, hs, hb2⟩
    have S2 := Lib.hid ((hs.from_ (Nat.zero_le _)))
    have S1b := Lib.hid (((S1.out.below hb2).more hb2.size).from_ (Nat.zero_le _))
    have B2 := Lib.hid (B1.out.trans (hb2.mono (Nat.le_trans szd sz1)))
    have sz2 := hb2.size
    clear hs hb2
    go_wp2_with fail
    refine hK.out _ _ trivial (fun hS2 => ?_)
    clear hK K
    try simp only [Go.Law.pz]
    refine wpAnyH_ready (rs := [8]) (by kernel_rfl) (by simp) ?_
    refine AllReadyH.cons (o := ⟨some 25, .call { callee := .value (.func 100), args := #[.tmp 20, .tmp 24], argTypes := _ }, _, _, _, _⟩) rfl (fun K hK => ?_) AllReadyH.nil
    go_simp
    refine Calls.mono (merge (all L1) (all L2) A1 A2 c1 c2 _ S1b.out S2.out hc1 hc2 (by rw [hL1.out, hL2.out]; exact hl500)) ?_
    rintro e w3 ⟨A3, c3, rfl, hc3, hs, hb3⟩
    have S3 := Lib.hid (hs.from_ (Nat.le_trans szd (Nat.le_trans sz1 sz2)))
    have B3 := Lib.hid (B2.out.trans (hb3.mono (Nat.le_trans szd (Nat.le_trans sz1 sz2))))
    clear hs hb3
    go_wp2_with fail
    refine hK.out _ _ trivial (fun hS3 => ?_)
    clear hK K
    try simp only [Go.Law.pz]
    refine Go.Law.tk 9 ⟨some 2, .assign (.tmp 25), _, _, _, _⟩ (v := .slice A3 (mrg (all L1) (all L2)).length c3) hS3 ?_ ?_
    ·intro w' hSw
     go_simp
    try simp only [Go.Law.pz]
    refine wpAnyH_done (by kernel_rfl) ?_ _
    go_wp2_with fail
    go_ret
    exact ⟨A3, c3, by rw [HE.out]; rfl, by rw [HE.out]; exact hc3, by rw [HE.out]; exact S3.out, B3.out⟩
end Feed
end Go.Proofs.YtohdlnefgieenaaGreat
