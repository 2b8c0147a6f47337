/-
  What slices.Clone at events and merge (layer 9) come to.
-/
import Derived.Test.YtdkjcheannehhaaGreatJ24
import Derived.Test.YtdkjcheannehhaaGreatJ28
import Derived.Lib.QuietBelow
import Derived.Test.YtdkjcheannehhaaGreatJ23
namespace Go.Law
theorem flatE_ne {zs : List Ev} (h : zs ≠ []) : flatE zs ≠ [] := by
  intro h0
  have := flatE_length zs
  rw [h0] at this
  simp at this
  exact h (List.eq_nil_of_length_eq_zero (by omega))
theorem own_emptyE (w : World) {base : Nat} (e : TypeId) (hb : base ≤ w.heap.size) : (w.alloc (.cells #[] e)).ownsRow base e 8 (.slice (some ⟨w.heap.size, 0, none⟩) 0 0) 0 [] :=
  ⟨rfl, .inr ⟨w.heap.size, 0, #[], rfl, hb, heap_alloc_new w _, Nat.le_refl _, Nat.zero_le _, rfl, rfl⟩⟩
end Go.Law
namespace Go.Proofs.YtdkjcheannehhaaGreat
open Go.RowKit Go.Shelf
attribute [local go_sem] Oper.semAt_some
namespace Feed
open Go.Law
@[go_sem] theorem run_nil (n c : Nat) (w : World) : Sem.run Tryz.prog (binOp .eql 41 (.slice none n c) (.slice none 0 0)) w = .ok (.bool true) w := by kernel_rfl
@[go_sem] theorem run_not_nil (a : Addr) (n c : Nat) (w : World) : Sem.run Tryz.prog (binOp .eql 41 (.slice (some a) n c) (.slice none 0 0)) w = .ok (.bool false) w := by kernel_rfl
theorem tail_seq {w : World} {lo B : Nat} {b o : Nat} {x : Ev} {xs : List Ev} (h : Seq w lo B (some ⟨b, o, none⟩) (flatE (x :: xs))) : Seq w lo B (some ⟨b, o + 8, none⟩) (flatE xs) := fun hne => by
  have e : flatE (x :: xs) = cellsE x ++ flatE xs := by simp [flatE]
  obtain ⟨b', o', h0, h1, h2, h3⟩ := h (by rw [e]; simp [cellsE])
  obtain ⟨rfl, rfl, _⟩ := by simpa using h0
  refine ⟨b, o + 8, rfl, h1, h2, fun i u hu => ?_⟩
  have := h3 (8 + i) u (by rw [e, List.getElem?_append_right (by simp [cellsE])]; simpa [cellsE] using hu)
  rwa [← Nat.add_assoc] at this
theorem tail_if {w : World} {lo B : Nat} {b o c : Nat} {x : Ev} {xs : List Ev} (h : Seq w lo B (some ⟨b, o, none⟩) (flatE (x :: xs))) (hc : xs.length + 1 ≤ c) : Seq w lo B (if c = 1 then some ⟨b, o, none⟩ else some ⟨b, o + 8, none⟩) (flatE xs) := by
  by_cases e : c = 1
  · have : xs = [] := List.eq_nil_of_length_eq_zero (by omega)
    subst this
    exact fun h => absurd rfl h
  · rw [if_neg e]
    exact tail_seq h
def slen : Value → Nat
  | .slice _ n _ => n
  | _ => 0
/-- behind a call that answers these events in new memory -/
def Lists (w : World) (zs : List Ev) (e : Ending) (w' : World) : Prop := ∃ A c, e = .returned (.slice A zs.length c) ∧ zs.length ≤ c ∧ Seq w' w.heap.size w'.heap.size A (flatE zs) ∧ Below w.heap.size w w'
set_option maxHeartbeats 1000000 in
theorem clone (zs : List Ev) (A : Option Addr) (c : Nat) (w : World) (hs : Seq w 0 w.heap.size A (flatE zs)) (hl : zs.length ≤ 1000) :
    Calls Tryz.prog 112 #[.slice A zs.length c] w (Lists w zs) := by
  obtain ⟨i0, hE⟩ := RingE.elem
  have HE := Lib.hid hE
  have HS := Lib.hid hs
  clear hE hs
  cases A with
  | none =>
    have hz : zs = [] := Classical.byContradiction fun h => by
      obtain ⟨b, off, e, _⟩ := HS.out (flatE_ne h)
      cases e
    subst hz
    go_enter Tryz.func112, Tryz.ntmps112
    go_wp2_with fail
    go_ret
    exact ⟨none, 0, rfl, Nat.le_refl _, fun h => absurd rfl h, Below.refl _ _⟩
  | some a =>
    have HO := Lib.hid (own_emptyE w 67 (base := w.heap.size) (Nat.le_refl _))
    have HS1 := Lib.hid (HS.out.alloc (Nat.le_refl _) (.cells #[] 67))
    go_enter Tryz.func112, Tryz.ntmps112
    go_wp2_with (at_builtin; refine Law.wpList_append_seq _ w.heap.size 41 rfl _ _ rfl HE.out _ 0 [] rfl HO.out 0 w.heap.size (some a) zs.length c (flatE zs) rfl (flatE_length zs) HS1.out (flatE_one _) (by unfold maxLen; omega) (by omega) (by simp) ?_)
    intro v1 w1 hown hgrow
    have B1 : Below w.heap.size w w1 := ((Below.refl _ w).alloc (Nat.le_refl _) (.cells #[] 67)).grown hgrow (by simp) (fun k hk => by have h9 : w.heap.size = k := Option.some.inj hk; omega)
    have OW : w1.ownsRow w.heap.size 67 8 v1 zs.length (flatE zs) := by simpa using hown
    obtain ⟨A1, c1, rfl, hc1⟩ := own_shape OW
    have HB := Lib.hid B1
    have HW := Lib.hid OW
    clear hown hgrow B1 OW HO HS1
    go_wp2_with fail
    go_ret
    exact ⟨A1, c1, rfl, hc1, Seq.own HW.out, HB.out⟩
/-- on the way of a merge: what is left of both, and what there is so far -/
def Mid (w : World) (us bs : List Ev) (va vb vm : Value) (wr : World) : Prop := ∃ (xs ys dn : List Ev) (A' B' : Option Addr) (ca' cb' : Nat), va = .slice A' xs.length ca' ∧ vb = .slice B' ys.length cb' ∧ xs.length ≤ ca' ∧ ys.length ≤ cb' ∧ Seq w 0 w.heap.size A' (flatE xs) ∧ Seq w 0 w.heap.size B' (flatE ys) ∧ wr.ownsRow w.heap.size 67 8 vm dn.length (flatE dn) ∧ Below w.heap.size w wr ∧ mrg us bs = dn ++ mrg xs ys ∧ dn.length + (xs.length + ys.length) ≤ 500
set_option maxRecDepth 100000 in
set_option maxHeartbeats 4000000 in
theorem merge (us bs : List Ev) (A B : Option Addr) (ca cb : Nat) (w : World) (ha : Seq w 0 w.heap.size A (flatE us)) (hb : Seq w 0 w.heap.size B (flatE bs)) (hca : us.length ≤ ca) (hcb : bs.length ≤ cb) (hl : us.length + bs.length ≤ 500) :
    Calls Tryz.prog 113 #[.slice A us.length ca, .slice B bs.length cb] w (Lists w (mrg us bs)) := by
  obtain ⟨i0, hE⟩ := RingE.elem
  have HE := Lib.hid hE
  have HA := Lib.hid ha
  have HB := Lib.hid hb
  clear hE ha hb
  obtain ⟨n0, hn0⟩ : ∃ n : Nat, us.length + bs.length = n := ⟨_, rfl⟩
  go_enter Tryz.func113, Tryz.ntmps113
  go_wp2_with (at_make; refine wpList_make_own _ rfl _ _ 41 rfl w.heap.size 67 i0 (.agg #[.string ⟨#[]⟩, .int .i64 0, .int .i64 0, .int .i64 0, .int .i64 0, .int .i64 0, .int .i64 0, .int .u64 0]) 8 HE.out.ut HE.out.info HE.out.zero HE.out.sz .i64 .i64 _ n0 rfl rfl (by first | omega | (simp; omega)) (by rw [HE.out.by_]; omega) (by unfold maxLen; omega) (Nat.le_refl _) ?_; intro w1 hown hgrow)
  have B1 : Below w.heap.size w w1 := (Below.refl _ w).grown hgrow (Nat.le_refl _) (by simp)
  have HB1 := Lib.hid B1
  have HO1 := Lib.hid hown
  clear B1 hown hgrow
  go_loopw [0, 1, 5] (fun va vb vm wr => Mid w us bs va vb vm wr) (fun va vb _ _ => slen va + slen vb)
  case atStart => exact ⟨us, bs, [], A, B, ca, cb, rfl, rfl, hca, hcb, HA.out, HB.out, HO1.out, HB1.out, rfl, by simp; omega⟩
  case round =>
    clear HA HB HB1 HO1
    obtain ⟨xs, ys, dn, A', B', ca', cb', rfl, rfl, hca', hcb', hA, hB, hO, hBel, hM, hN⟩ := hrel
    have HA := Lib.hid hA
    have HB := Lib.hid hB
    have HO := Lib.hid hO
    have HBel := Lib.hid hBel
    have HM := Lib.hid hM
    have sz := hBel.size
    clear hA hB hO hBel hM
    cases xs with
    | nil =>
      have HM2 : Hid (mrg us bs = dn ++ ([] : List Ev) ++ ys) := by show _ = _; rw [HM.out, mrg_nil]; simp
      have HA1 := Lib.hid (HA.out.below HBel.out)
      simp only [List.length_nil] at hN
      obtain ⟨D, cd, rfl, hcd⟩ := own_shape HO.out
      go_wp2_with (first | (at_builtin; refine Law.wpList_append_seq _ w.heap.size 41 rfl _ _ rfl HE.out _ (dn.length) (flatE dn) rfl HO.out 0 w.heap.size A' _ _ (flatE ([] : List Ev)) rfl (flatE_length ([] : List Ev)) HA1.out (flatE_one _) (by unfold maxLen; first | omega | (simp; omega)) (by first | omega | (simp; omega)) (by omega) ?_; intro v1 z1 hown1 hg1; have hb1 := HBel.out.grown hg1 sz (fun k hk => (HO.out.lt k hk).1); have HBL1 := Lib.hid hb1; have HO1 := Lib.hid hown1; have HB1 := Lib.hid (HB.out.below hb1); have sz1 := hb1.size; obtain ⟨D1, cd1, hD1, hcd1⟩ := own_shape hown1; subst hD1; clear hown1 hg1 hb1) | (at_builtin; refine Law.wpList_append_seq _ w.heap.size 41 rfl _ _ rfl HE.out _ (dn.length + ([] : List Ev).length) (flatE dn ++ flatE ([] : List Ev)) rfl HO1.out 0 w.heap.size B' _ _ (flatE ys) rfl (flatE_length ys) HB1.out (flatE_one _) (by unfold maxLen; first | omega | (simp; omega)) (by first | omega | (simp; omega)) (by omega) ?_; intro v2 z2 hown2 hg2; have hb2 := HBL1.out.grown hg2 sz1 (fun k hk => (HO1.out.lt k hk).1); have HBL2 := Lib.hid hb2; have HO2 := Lib.hid hown2; obtain ⟨D2, cd2, hD2, hcd2⟩ := own_shape hown2; subst hD2; clear hown2 hg2 hb2))
      go_ret
      refine ⟨D2, cd2, ?_, ?_, ?_, HBL2.out⟩
      · rw [HM2.out]; simp
      · rw [HM2.out]; simpa using hcd2
      · rw [HM2.out, flatE_app, flatE_app]; exact Seq.own HO2.out
    | cons x xs =>
      cases ys with
      | nil =>
        have HM2 : Hid (mrg us bs = dn ++ (x :: xs) ++ ([] : List Ev)) := by show _ = _; rw [HM.out, mrg_nil']; simp
        have HA1 := Lib.hid (HA.out.below HBel.out)
        simp only [List.length_cons, List.length_nil] at hN
        obtain ⟨D, cd, rfl, hcd⟩ := own_shape HO.out
        go_wp2_with (first | (at_builtin; refine Law.wpList_append_seq _ w.heap.size 41 rfl _ _ rfl HE.out _ (dn.length) (flatE dn) rfl HO.out 0 w.heap.size A' _ _ (flatE (x :: xs)) rfl (flatE_length (x :: xs)) HA1.out (flatE_one _) (by unfold maxLen; first | omega | (simp; omega)) (by first | omega | (simp; omega)) (by omega) ?_; intro v1 z1 hown1 hg1; have hb1 := HBel.out.grown hg1 sz (fun k hk => (HO.out.lt k hk).1); have HBL1 := Lib.hid hb1; have HO1 := Lib.hid hown1; have HB1 := Lib.hid (HB.out.below hb1); have sz1 := hb1.size; obtain ⟨D1, cd1, hD1, hcd1⟩ := own_shape hown1; subst hD1; clear hown1 hg1 hb1) | (at_builtin; refine Law.wpList_append_seq _ w.heap.size 41 rfl _ _ rfl HE.out _ (dn.length + (x :: xs).length) (flatE dn ++ flatE (x :: xs)) rfl HO1.out 0 w.heap.size B' _ _ (flatE ([] : List Ev)) rfl (flatE_length ([] : List Ev)) HB1.out (flatE_one _) (by unfold maxLen; first | omega | (simp; omega)) (by first | omega | (simp; omega)) (by omega) ?_; intro v2 z2 hown2 hg2; have hb2 := HBL1.out.grown hg2 sz1 (fun k hk => (HO1.out.lt k hk).1); have HBL2 := Lib.hid hb2; have HO2 := Lib.hid hown2; obtain ⟨D2, cd2, hD2, hcd2⟩ := own_shape hown2; subst hD2; clear hown2 hg2 hb2))
        go_ret
        refine ⟨D2, cd2, ?_, ?_, ?_, HBL2.out⟩
        · rw [HM2.out]; simp
        · rw [HM2.out]; simpa using hcd2
        · rw [HM2.out, flatE_app, flatE_app]; exact Seq.own HO2.out
      | cons y ys =>
        obtain ⟨ga, oa, rfl, _, hga, p0, p1, p2, p3, p4, p5, p6, p7⟩ := (HA.out.below HBel.out).ev (i := 0) (by simp)
        obtain ⟨gb, ob, rfl, _, hgb, q0, q1, q2, q3, q4, q5, q6, q7⟩ := (HB.out.below HBel.out).ev (i := 0) (by simp)
        simp only [List.getElem_cons_zero, Nat.zero_mul, Nat.add_zero] at p0 p1 p2 p3 p4 p5 p6 p7 q0 q1 q2 q3 q4 q5 q6 q7
        have lga : ga < wr.heap.size := by omega
        have lgb : gb < wr.heap.size := by omega
        simp only [List.length_cons] at hca' hcb' hN
        obtain ⟨D, cd, rfl, hcd⟩ := own_shape HO.out
        simp only [List.length_cons]
        go_wp2_with fail
        go_quiet (fail)
        by_cases hlt : y.sq < x.sq
        · skip
          have d2 : decide (y.sq < x.sq) = true := by simp; omega
          have HM2 : Hid (mrg us bs = (dn ++ [y]) ++ mrg (x :: xs) ys) := by show _ = _; rw [HM.out, mrg_cons, if_pos hlt]; simp
          go_wp2_with fail
          have hbq : Below wr.heap.size wr (wr.drewN nq) := Law.below_drewN (Below.refl _ wr) nq
          have HO2 := Lib.hid (own_below HO.out hbq)
          have HB2 := Lib.hid (HBel.out.trans (hbq.mono sz))
          have hz2 : w.heap.size ≤ (wr.drewN nq).heap.size := sz
          have lg2 : gb < (wr.drewN nq).heap.size := lgb
          have r0 := (hbq.cell (p := ⟨gb, ob, none⟩) lgb).trans q0
          have r1 := (hbq.cell (p := ⟨gb, ob + 1, none⟩) lgb).trans q1
          have r2 := (hbq.cell (p := ⟨gb, ob + 2, none⟩) lgb).trans q2
          have r3 := (hbq.cell (p := ⟨gb, ob + 3, none⟩) lgb).trans q3
          have r4 := (hbq.cell (p := ⟨gb, ob + 4, none⟩) lgb).trans q4
          have r5 := (hbq.cell (p := ⟨gb, ob + 5, none⟩) lgb).trans q5
          have r6 := (hbq.cell (p := ⟨gb, ob + 6, none⟩) lgb).trans q6
          have r7 := (hbq.cell (p := ⟨gb, ob + 7, none⟩) lgb).trans q7
          clear hbq p0 p1 p2 p3 p4 p5 p6 p7 q0 q1 q2 q3 q4 q5 q6 q7 HO HBel HM d2 hlt
          generalize wr.drewN nq = W2 at *
          have h1y : (1 : Int) ≤ (ys.length : Int) + 1 := by omega
          have O2 := Lib.hid (HO2.out.alloc (.cells y.box 67))
          have s0 := (World.cell?_alloc_lt W2 (.cells y.box 67) ⟨gb, ob, none⟩ lg2).trans r0
          have s1 := (World.cell?_alloc_lt W2 (.cells y.box 67) ⟨gb, ob + 1, none⟩ lg2).trans r1
          have s2 := (World.cell?_alloc_lt W2 (.cells y.box 67) ⟨gb, ob + 2, none⟩ lg2).trans r2
          have s3 := (World.cell?_alloc_lt W2 (.cells y.box 67) ⟨gb, ob + 3, none⟩ lg2).trans r3
          have s4 := (World.cell?_alloc_lt W2 (.cells y.box 67) ⟨gb, ob + 4, none⟩ lg2).trans r4
          have s5 := (World.cell?_alloc_lt W2 (.cells y.box 67) ⟨gb, ob + 5, none⟩ lg2).trans r5
          have s6 := (World.cell?_alloc_lt W2 (.cells y.box 67) ⟨gb, ob + 6, none⟩ lg2).trans r6
          have s7 := (World.cell?_alloc_lt W2 (.cells y.box 67) ⟨gb, ob + 7, none⟩ lg2).trans r7
          have HS : Hid (Seq w 0 w.heap.size (if cb' = 1 then some ⟨gb, ob, none⟩ else some ⟨gb, ob + 8, none⟩) (flatE ys)) := tail_if HB.out hcb'
          by_cases hc1 : cb' = 1
          · rw [if_pos hc1] at HS
            go_region_law (refine Law.step_append_at (base := w.heap.size) (t := 41) rfl (.tmp 29) (.tmp 33) rfl HE.out (.slice D dn.length cd) dn.length (flatE dn) (by simp [Act.eval]) (by exact O2.out) ⟨W2.heap.size, 0, none⟩ 1 1 (cellsE y) (by simp [Act.eval]) (by rfl) (by exact new_E W2 y _ rfl) (one_E y) (by unfold maxLen; omega) (by omega) (by show w.heap.size ≤ (W2.alloc _).heap.size; simp; omega) ?_; intro v' w1 hown hg hv'; have OW := Lib.hid hown; have G := Lib.hid hg; clear hown hg hv')
            all_goals
              have B3 := Lib.hid ((HB2.out.alloc hz2 (.cells y.box 67)).drew.grown G.out (by simp; omega) (fun k hk => (HO2.out.lt k hk).1))
              simp only [List.getElem_toArray, List.getElem_cons_zero, List.getElem_cons_succ, Act.put, List.setIfInBounds_toArray, List.set_cons_zero, List.set_cons_succ]
              go_wp2_with fail
              go_roundw
              case rel => exact ⟨x :: xs, ys, dn ++ [y], _, _, _, _, rfl, rfl, by first | (simp only [List.length_cons]; omega) | omega, by first | (simp only [List.length_cons]; omega) | omega, HA.out, HS.out, by rw [flatE_snoc, List.length_append]; exact OW.out, B3.out, HM2.out, by simp; omega⟩
              case measure => simp [slen]
          · rw [if_neg hc1] at HS
            go_region_law (refine Law.step_append_at (base := w.heap.size) (t := 41) rfl (.tmp 29) (.tmp 33) rfl HE.out (.slice D dn.length cd) dn.length (flatE dn) (by simp [Act.eval]) (by exact O2.out) ⟨W2.heap.size, 0, none⟩ 1 1 (cellsE y) (by simp [Act.eval]) (by rfl) (by exact new_E W2 y _ rfl) (one_E y) (by unfold maxLen; omega) (by omega) (by show w.heap.size ≤ (W2.alloc _).heap.size; simp; omega) ?_; intro v' w1 hown hg hv'; have OW := Lib.hid hown; have G := Lib.hid hg; clear hown hg hv')
            all_goals
              have B3 := Lib.hid ((HB2.out.alloc hz2 (.cells y.box 67)).drew.grown G.out (by simp; omega) (fun k hk => (HO2.out.lt k hk).1))
              simp only [List.getElem_toArray, List.getElem_cons_zero, List.getElem_cons_succ, Act.put, List.setIfInBounds_toArray, List.set_cons_zero, List.set_cons_succ]
              go_wp2_with fail
              go_roundw
              case rel => exact ⟨x :: xs, ys, dn ++ [y], _, _, _, _, rfl, rfl, by first | (simp only [List.length_cons]; omega) | omega, by first | (simp only [List.length_cons]; omega) | omega, HA.out, HS.out, by rw [flatE_snoc, List.length_append]; exact OW.out, B3.out, HM2.out, by simp; omega⟩
              case measure => simp [slen]
        · skip
          have d2 : decide (y.sq < x.sq) = false := by simp; omega
          have HM2 : Hid (mrg us bs = (dn ++ [x]) ++ mrg xs (y :: ys)) := by show _ = _; rw [HM.out, mrg_cons, if_neg hlt]; simp
          go_wp2_with fail
          have hbq : Below wr.heap.size wr (wr.drewN nq) := Law.below_drewN (Below.refl _ wr) nq
          have HO2 := Lib.hid (own_below HO.out hbq)
          have HB2 := Lib.hid (HBel.out.trans (hbq.mono sz))
          have hz2 : w.heap.size ≤ (wr.drewN nq).heap.size := sz
          have lg2 : ga < (wr.drewN nq).heap.size := lga
          have r0 := (hbq.cell (p := ⟨ga, oa, none⟩) lga).trans p0
          have r1 := (hbq.cell (p := ⟨ga, oa + 1, none⟩) lga).trans p1
          have r2 := (hbq.cell (p := ⟨ga, oa + 2, none⟩) lga).trans p2
          have r3 := (hbq.cell (p := ⟨ga, oa + 3, none⟩) lga).trans p3
          have r4 := (hbq.cell (p := ⟨ga, oa + 4, none⟩) lga).trans p4
          have r5 := (hbq.cell (p := ⟨ga, oa + 5, none⟩) lga).trans p5
          have r6 := (hbq.cell (p := ⟨ga, oa + 6, none⟩) lga).trans p6
          have r7 := (hbq.cell (p := ⟨ga, oa + 7, none⟩) lga).trans p7
          clear hbq p0 p1 p2 p3 p4 p5 p6 p7 q0 q1 q2 q3 q4 q5 q6 q7 HO HBel HM d2 hlt
          generalize wr.drewN nq = W2 at *
          have h1y : (1 : Int) ≤ (xs.length : Int) + 1 := by omega
          have O2 := Lib.hid (HO2.out.alloc (.cells x.box 67))
          have s0 := (World.cell?_alloc_lt W2 (.cells x.box 67) ⟨ga, oa, none⟩ lg2).trans r0
          have s1 := (World.cell?_alloc_lt W2 (.cells x.box 67) ⟨ga, oa + 1, none⟩ lg2).trans r1
          have s2 := (World.cell?_alloc_lt W2 (.cells x.box 67) ⟨ga, oa + 2, none⟩ lg2).trans r2
          have s3 := (World.cell?_alloc_lt W2 (.cells x.box 67) ⟨ga, oa + 3, none⟩ lg2).trans r3
          have s4 := (World.cell?_alloc_lt W2 (.cells x.box 67) ⟨ga, oa + 4, none⟩ lg2).trans r4
          have s5 := (World.cell?_alloc_lt W2 (.cells x.box 67) ⟨ga, oa + 5, none⟩ lg2).trans r5
          have s6 := (World.cell?_alloc_lt W2 (.cells x.box 67) ⟨ga, oa + 6, none⟩ lg2).trans r6
          have s7 := (World.cell?_alloc_lt W2 (.cells x.box 67) ⟨ga, oa + 7, none⟩ lg2).trans r7
          have HS : Hid (Seq w 0 w.heap.size (if ca' = 1 then some ⟨ga, oa, none⟩ else some ⟨ga, oa + 8, none⟩) (flatE xs)) := tail_if HA.out hca'
          by_cases hc1 : ca' = 1
          · rw [if_pos hc1] at HS
            go_region_law (refine Law.step_append_at (base := w.heap.size) (t := 41) rfl (.tmp 37) (.tmp 41) rfl HE.out (.slice D dn.length cd) dn.length (flatE dn) (by simp [Act.eval]) (by exact O2.out) ⟨W2.heap.size, 0, none⟩ 1 1 (cellsE x) (by simp [Act.eval]) (by rfl) (by exact new_E W2 x _ rfl) (one_E x) (by unfold maxLen; omega) (by omega) (by show w.heap.size ≤ (W2.alloc _).heap.size; simp; omega) ?_; intro v' w1 hown hg hv'; have OW := Lib.hid hown; have G := Lib.hid hg; clear hown hg hv')
            all_goals
              have B3 := Lib.hid ((HB2.out.alloc hz2 (.cells x.box 67)).drew.grown G.out (by simp; omega) (fun k hk => (HO2.out.lt k hk).1))
              simp only [List.getElem_toArray, List.getElem_cons_zero, List.getElem_cons_succ, Act.put, List.setIfInBounds_toArray, List.set_cons_zero, List.set_cons_succ]
              go_wp2_with fail
              go_roundw
              case rel => exact ⟨xs, y :: ys, dn ++ [x], _, _, _, _, rfl, rfl, by first | (simp only [List.length_cons]; omega) | omega, by first | (simp only [List.length_cons]; omega) | omega, HS.out, HB.out, by rw [flatE_snoc, List.length_append]; exact OW.out, B3.out, HM2.out, by simp; omega⟩
              case measure => simp [slen]
          · rw [if_neg hc1] at HS
            go_region_law (refine Law.step_append_at (base := w.heap.size) (t := 41) rfl (.tmp 37) (.tmp 41) rfl HE.out (.slice D dn.length cd) dn.length (flatE dn) (by simp [Act.eval]) (by exact O2.out) ⟨W2.heap.size, 0, none⟩ 1 1 (cellsE x) (by simp [Act.eval]) (by rfl) (by exact new_E W2 x _ rfl) (one_E x) (by unfold maxLen; omega) (by omega) (by show w.heap.size ≤ (W2.alloc _).heap.size; simp; omega) ?_; intro v' w1 hown hg hv'; have OW := Lib.hid hown; have G := Lib.hid hg; clear hown hg hv')
            all_goals
              have B3 := Lib.hid ((HB2.out.alloc hz2 (.cells x.box 67)).drew.grown G.out (by simp; omega) (fun k hk => (HO2.out.lt k hk).1))
              simp only [List.getElem_toArray, List.getElem_cons_zero, List.getElem_cons_succ, Act.put, List.setIfInBounds_toArray, List.set_cons_zero, List.set_cons_succ]
              go_wp2_with fail
              go_roundw
              case rel => exact ⟨xs, y :: ys, dn ++ [x], _, _, _, _, rfl, rfl, by first | (simp only [List.length_cons]; omega) | omega, by first | (simp only [List.length_cons]; omega) | omega, HS.out, HB.out, by rw [flatE_snoc, List.length_append]; exact OW.out, B3.out, HM2.out, by simp; omega⟩
              case measure => simp [slen]
end Feed
end Go.Proofs.YtdkjcheannehhaaGreat
/-
  A slice argument whose elements are slices: rows of events, rows of numbers. General over programs.
-/
namespace Go.Law
open Go.RowKit Go.ChangeShapes Go.WideShapes Go.ChangeAt
section
variable {α : Type} (cells : α → List Value) {sz : Nat} (hc : ∀ q, (cells q).length = sz)
include hc
theorem open_rowsT {H : Type} {enc : TypeId × Value → H} {P : Program} {t e : TypeId} {Good : α → Prop} (ht : P.underlying t = some (.slice e)) (ce : P.cellsOf e = sz) (hsz : 0 < sz)
    {W : World} {base fuel0 : Nat} {sp : Nat → Bool} {hd : Bool} {cs0 : List Value} {x0 : DataW H × List MemPlace}
    (dec : ∀ (fuel : Nat) (cs : List Value) (x : DataW H × List MemPlace), DataW.trod enc P W base sp hd fuel e cs = some x → ∃ q : α, cs = cells q ∧ Good q)
    (hf : DataW.trod enc P W base sp hd fuel0 t cs0 = some x0) :
    ∃ (A : Option Addr) (c : Nat) (l : List α), cs0 = [.slice A l.length c] ∧ l.length ≤ c ∧ Seq W 0 W.heap.size A (l.flatMap cells) ∧ l.length ≤ maxLen ∧ ∀ q ∈ l, Good q := by
  rcases Go.Deep.open_slice ht hf with ⟨hcs, _⟩ | ⟨x, n, c, m, n', D, Pl, hcs, _, hl, hmx, hm, hdp, hx⟩
  · subst hcs
    exact ⟨none, 0, [], rfl, Nat.le_refl _, fun h => absurd rfl h, by simp, fun _ h => by cases h⟩
  · subst hcs
    have hlm : n ≤ m := by rw [hm]; split <;> omega
    obtain ⟨b, off, spot⟩ := x
    have hsp : 0 < n → spot = none := fun hn => by
      obtain ⟨cs', h1, h2⟩ := hx 0 (by omega)
      rw [ce] at h1
      obtain ⟨_, hlen, hcell⟩ := World.cells?_some h1
      have e0 := hcell 0 (by omega)
      rw [Go.Deep.add_add, List.getElem?_eq_getElem (by omega)] at e0
      have := World.cell?_spot e0
      simpa [Addr.add] using this
    have each : ∀ i, i < n → spot = none ∧ b < W.heap.size ∧ ∃ q : α, Good q ∧ ∀ j u, (cells q)[j]? = some u → W.cell? ⟨b, off + i * sz + j, none⟩ = some u := fun i hi => by
      obtain ⟨cs', h1, h2⟩ := hx i (by omega)
      rw [ce] at h1
      obtain ⟨_, hlen, hcell⟩ := World.cells?_some h1
      obtain ⟨q, rfl, hg⟩ := dec _ _ _ h2
      have hspot : spot = none := hsp (by omega)
      subst hspot
      have hj : ∀ j u, (cells q)[j]? = some u → W.cell? ⟨b, off + i * sz + j, none⟩ = some u := fun j u hu => by
        have hjl : j < sz := by have := (List.getElem?_eq_some_iff.1 hu).1; rwa [hc] at this
        have e0 := hcell j hjl
        rw [Go.Deep.add_add, add_plainR, hu, ← Nat.add_assoc] at e0
        exact e0
      refine ⟨rfl, ?_, q, hg, hj⟩
      have h0 : (cells q)[0]? = some ((cells q)[0]'(by rw [hc]; exact hsz)) := List.getElem?_eq_getElem _
      exact World.block_lt_of_cell? W _ (hj 0 _ h0)
    have : ∃ g : Nat → Option α, ∀ i, i < n → ∃ q, g i = some q ∧ Good q ∧ ∀ j u, (cells q)[j]? = some u → W.cell? ⟨b, off + i * sz + j, none⟩ = some u := by
      refine ⟨fun i => if h : i < n then some (Classical.choose (each i h).2.2) else none, fun i hi => ?_⟩
      simp only [hi, dif_pos]
      exact ⟨_, rfl, Classical.choose_spec (each i hi).2.2⟩
    obtain ⟨g, hg⟩ := this
    have hmap : ∃ l : List α, l.length = n ∧ ∀ i q, l[i]? = some q → Good q ∧ ∀ j u, (cells q)[j]? = some u → W.cell? ⟨b, off + i * sz + j, none⟩ = some u := by
      clear hl hmx hm hx hlm each hf hsp hdp
      induction n with
      | zero => exact ⟨[], rfl, fun i q h => by simp at h⟩
      | succ n ih =>
        obtain ⟨l, hl, hq⟩ := ih (fun i hi => hg i (by omega))
        obtain ⟨q, _, hG, hQ⟩ := hg n (by omega)
        refine ⟨l ++ [q], by simp [hl], fun i q' h => ?_⟩
        rcases Nat.lt_or_ge i n with h1 | h1
        · rw [List.getElem?_append_left (by omega)] at h
          exact hq i q' h
        · rw [List.getElem?_append_right (by omega)] at h
          have hi : i = n := by
            have := (List.getElem?_eq_some_iff.1 h).1
            simp at this; omega
          subst hi
          simp [hl] at h
          subst h
          exact ⟨hG, hQ⟩
    obtain ⟨l, hll, hlq⟩ := hmap
    subst hll
    refine ⟨some ⟨b, off, spot⟩, c, l, rfl, by omega, fun hne => ?_, by omega, fun q hq => ?_⟩
    · have hn : 0 < l.length := by
        rcases Nat.eq_zero_or_pos l.length with h0 | h0
        · rw [List.eq_nil_of_length_eq_zero h0] at hne; simp at hne
        · exact h0
      obtain ⟨hsp', hb, _⟩ := each 0 hn
      subst hsp'
      refine ⟨b, off, rfl, Nat.zero_le _, hb, fun i u hu => ?_⟩
      have hi : i < l.length * sz := by
        have := (List.getElem?_eq_some_iff.1 hu).1
        rwa [rows_length cells hc] at this
      have hq : i / sz < l.length := (Nat.div_lt_iff_lt_mul hsz).2 hi
      have hj : i % sz < sz := Nat.mod_lt _ hsz
      have hdm : i / sz * sz + i % sz = i := by rw [Nat.mul_comm]; exact Nat.div_add_mod i sz
      have h1 := rows_at cells hc (List.getElem?_eq_getElem hq) hj
      rw [hdm, hu] at h1
      have h2 := (hlq _ _ (List.getElem?_eq_getElem hq)).2 (i % sz) u h1.symm
      rwa [Nat.add_assoc, hdm] at h2
    · obtain ⟨i, hi, rfl⟩ := List.getElem_of_mem hq
      exact (hlq i _ (List.getElem?_eq_getElem hi)).1
end
/-- a row: where it lies, how much room there is, and what it holds -/
structure RowV (α : Type) where
  A : Option Addr
  c : Nat
  xs : List α
def cellsR {α : Type} (q : RowV α) : List Value := [.slice q.A q.xs.length q.c]
theorem open_grid {α : Type} (cells : α → List Value) {sz : Nat} (hc : ∀ q, (cells q).length = sz) {H : Type} {enc : TypeId × Value → H} {P : Program} {t r e : TypeId} (ht : P.underlying t = some (.slice r)) (hr : P.underlying r = some (.slice e)) (cr : P.cellsOf r = 1) (ce : P.cellsOf e = sz) (hsz : 0 < sz)
    {W : World} {base b0 : Nat} {sp : Nat → Bool} {hd : Bool} {v : Value} {d : DataW H} {p : List MemPlace}
    (dec : ∀ (fuel : Nat) (cs : List Value) (x : DataW H × List MemPlace), DataW.trod enc P W base sp hd fuel e cs = some x → ∃ q : α, cs = cells q)
    (hv : Value.okWide P W .any b0 t v) (h : DataW.Trod enc P W base sp hd t v d p) :
    ∃ (A : Option Addr) (c : Nat) (l : List (RowV α)), v = .slice A l.length c ∧ l.length ≤ c ∧ Seq W 0 W.heap.size A (l.flatMap cellsR) ∧ l.length ≤ maxLen ∧ ∀ q ∈ l, Seq W 0 W.heap.size q.A (q.xs.flatMap cells) ∧ q.xs.length ≤ maxLen ∧ q.xs.length ≤ q.c := by
  obtain ⟨a, n, c, rfl⟩ := okWide_slice ht hv
  obtain ⟨fuel, hf⟩ := h
  obtain ⟨A, c', l, he, hc', hs, hl, hq⟩ := open_rowsT (Good := fun q : RowV α => Seq W 0 W.heap.size q.A (q.xs.flatMap cells) ∧ q.xs.length ≤ maxLen ∧ q.xs.length ≤ q.c) cellsR (fun _ => rfl) ht cr (by decide) (fun fuel cs x hf => by
    obtain ⟨A, c, l, rfl, hc2, hs, hl, _⟩ := open_rowsT (Good := fun _ => True) cells hc hr ce hsz (fun fuel cs x hf => by obtain ⟨q, hq⟩ := dec fuel cs x hf; exact ⟨q, hq, trivial⟩) hf
    exact ⟨⟨A, c, l⟩, rfl, hs, hl, hc2⟩) hf
  refine ⟨A, c', l, ?_, hc', hs, hl, hq⟩
  simpa [Value.cells] using he
section
variable {H : Type} {enc : TypeId × Value → H} {P : Program} {W : World} {base : Nat} {sp : Nat → Bool} {hd : Bool} {fuel : Nat} {cs : List Value} {x : DataW H × List MemPlace}
theorem dec_pres {o : TypeId} {g0 g1 g2 : Field} (ho : P.underlying o = some (.struct #[g0, g1, g2])) (co : P.cellsOf o = 3) (o0 : g0.offset = 0) (o1 : g1.offset = 1) (o2 : g2.offset = 2)
    (c0 : P.cellsOf g0.type = 1) (c1 : P.cellsOf g1.type = 1) (c2 : P.cellsOf g2.type = 1) (u0 : P.underlying g0.type = some (.int .i64)) (u1 : P.underlying g1.type = some (.int .i64)) (u2 : P.underlying g2.type = some (.int .i64))
    (h : DataW.trod enc P W base sp hd fuel o cs = some x) : ∃ a b c : Int, cs = [.int .i64 a, .int .i64 b, .int .i64 c] := by
  obtain ⟨xs, n, _, _, hl, hxl, hf⟩ := DataW.trod_struct ho h
  rw [co] at hl
  match cs, hl, xs, hxl with
  | [v0, v1, v2], _, [y0, y1, y2], _ =>
    have k0 := hf 0 g0 rfl
    have k1 := hf 1 g1 rfl
    have k2 := hf 2 g2 rfl
    simp [o0, o1, o2, c0, c1, c2] at k0 k1 k2
    obtain ⟨a0, e0, _, w0⟩ := DataW.trod_int u0 k0
    obtain ⟨a1, e1, _, w1⟩ := DataW.trod_int u1 k1
    obtain ⟨a2, e2, _, w2⟩ := DataW.trod_int u2 k2
    simp at e0 e1 e2
    subst e0 e1 e2
    exact ⟨a0, a1, a2, rfl⟩
theorem dec_ev {e : TypeId} {f0 f1 f2 f3 : Field} (he : P.underlying e = some (.struct #[f0, f1, f2, f3])) (ce : P.cellsOf e = 8) (o0 : f0.offset = 0) (o1 : f1.offset = 1) (o2 : f2.offset = 4) (o3 : f3.offset = 7)
    (c0 : P.cellsOf f0.type = 1) (c1 : P.cellsOf f1.type = 3) (c2 : P.cellsOf f2.type = 3) (c3 : P.cellsOf f3.type = 1) (u0 : P.underlying f0.type = some .string) (u3 : P.underlying f3.type = some (.int .u64))
    (d1 : ∀ fuel cs x, DataW.trod enc P W base sp hd fuel f1.type cs = some x → ∃ a b c : Int, cs = [.int .i64 a, .int .i64 b, .int .i64 c]) (d2 : ∀ fuel cs x, DataW.trod enc P W base sp hd fuel f2.type cs = some x → ∃ a b c : Int, cs = [.int .i64 a, .int .i64 b, .int .i64 c])
    (h : DataW.trod enc P W base sp hd fuel e cs = some x) : ∃ q : Ev, cs = cellsE q := by
  obtain ⟨xs, n, _, _, hl, hxl, hf⟩ := DataW.trod_struct he h
  rw [ce] at hl
  match cs, hl, xs, hxl with
  | [v0, v1, v2, v3, v4, v5, v6, v7], _, [y0, y1, y2, y3], _ =>
    have k0 := hf 0 f0 rfl
    have k1 := hf 1 f1 rfl
    have k2 := hf 2 f2 rfl
    have k3 := hf 3 f3 rfl
    simp [o0, o1, o2, o3, c0, c1, c2, c3] at k0 k1 k2 k3
    obtain ⟨a0, e0, _, w0⟩ := DataW.trod_string u0 k0
    obtain ⟨a1, b1, z1, e1⟩ := d1 _ _ _ k1
    obtain ⟨a2, b2, z2, e2⟩ := d2 _ _ _ k2
    obtain ⟨a3, e3, _, w3⟩ := DataW.trod_int u3 k3
    simp at e0 e1 e2 e3
    obtain ⟨rfl, rfl, rfl⟩ := e1
    obtain ⟨rfl, rfl, rfl⟩ := e2
    subst e0 e3
    exact ⟨⟨a0, a1, b1, z1, a2, b2, z2, a3⟩, rfl⟩
theorem dec_u64 {e : TypeId} (he : P.underlying e = some (.int .u64)) (h : DataW.trod enc P W base sp hd fuel e cs = some x) : ∃ q : Int, cs = [.int .u64 q] := by
  obtain ⟨a, e0, _, w0⟩ := DataW.trod_int he h
  exact ⟨a, e0⟩
end
end Go.Law
