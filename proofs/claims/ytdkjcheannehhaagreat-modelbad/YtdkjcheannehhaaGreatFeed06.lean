/-
  What slices.Clone at events and merge (layer 9) come to.
-/
import Derived.Test.YtdkjcheannehhaaGreatRingED
import Derived.Test.YtdkjcheannehhaaGreatMrgL
import Derived.Lib.QuietBelow
namespace Go.Law
theorem flatE_ne {zs : List Ev} (h : zs ≠ []) : flatE zs ≠ [] := by
  intro h0
  have := flatE_length zs
  rw [h0] at this
  simp at this
  exact h (List.eq_nil_of_length_eq_zero (by omega))
theorem own_emptyE (w : World) {base : Nat} (e : TypeId) (hb : base ≤ w.heap.size) : (w.alloc (.cells #[] e)).ownsRow base e 8 (.slice (some ⟨w.heap.size, 0, none⟩) 0 0) 0 [] :=
  ⟨rfl, .inr ⟨w.heap.size, 0, #[], rfl, hb, heap_alloc_new w _, Nat.le_refl _, Nat.zero_le _, rfl, rfl⟩⟩
end Go.Law
namespace Go.Proofs.YtdkjcheannehhaaGreat
open Go.RowKit Go.Shelf
attribute [local go_sem] Oper.semAt_some
namespace Feed
open Go.Law
@[go_sem] theorem run_nil (n c : Nat) (w : World) : Sem.run Tryz.prog (binOp .eql 41 (.slice none n c) (.slice none 0 0)) w = .ok (.bool true) w := by kernel_rfl
@[go_sem] theorem run_not_nil (a : Addr) (n c : Nat) (w : World) : Sem.run Tryz.prog (binOp .eql 41 (.slice (some a) n c) (.slice none 0 0)) w = .ok (.bool false) w := by kernel_rfl
theorem tail_seq {w : World} {lo B : Nat} {b o : Nat} {x : Ev} {xs : List Ev} (h : Seq w lo B (some ⟨b, o, none⟩) (flatE (x :: xs))) : Seq w lo B (some ⟨b, o + 8, none⟩) (flatE xs) := fun hne => by
  have e : flatE (x :: xs) = cellsE x ++ flatE xs := by simp [flatE]
  obtain ⟨b', o', h0, h1, h2, h3⟩ := h (by rw [e]; simp [cellsE])
  obtain ⟨rfl, rfl, _⟩ := by simpa using h0
  refine ⟨b, o + 8, rfl, h1, h2, fun i u hu => ?_⟩
  have := h3 (8 + i) u (by rw [e, List.getElem?_append_right (by simp [cellsE])]; simpa [cellsE] using hu)
  rwa [← Nat.add_assoc] at this
theorem tail_if {w : World} {lo B : Nat} {b o c : Nat} {x : Ev} {xs : List Ev} (h : Seq w lo B (some ⟨b, o, none⟩) (flatE (x :: xs))) (hc : xs.length + 1 ≤ c) : Seq w lo B (if c = 1 then some ⟨b, o, none⟩ else some ⟨b, o + 8, none⟩) (flatE xs) := by
  by_cases e : c = 1
  · have : xs = [] := List.eq_nil_of_length_eq_zero (by omega)
    subst this
    exact fun h => absurd rfl h
  · rw [if_neg e]
    exact tail_seq h
def slen : Value → Nat
  | .slice _ n _ => n
  | _ => 0
/-- behind a call that answers these events in new memory -/
def Lists (w : World) (zs : List Ev) (e : Ending) (w' : World) : Prop := ∃ A c, e = .returned (.slice A zs.length c) ∧ zs.length ≤ c ∧ Seq w' w.heap.size w'.heap.size A (flatE zs) ∧ Below w.heap.size w w'
set_option maxHeartbeats 1000000 in
theorem clone (zs : List Ev) (A : Option Addr) (c : Nat) (w : World) (hs : Seq w 0 w.heap.size A (flatE zs)) (hl : zs.length ≤ 1000) :
    Calls Tryz.prog 112 #[.slice A zs.length c] w (Lists w zs) := by
  obtain ⟨i0, hE⟩ := RingE.elem
  have HE := Lib.hid hE
  have HS := Lib.hid hs
  clear hE hs
  cases A with
  | none =>
    have hz : zs = [] := Classical.byContradiction fun h => by
      obtain ⟨b, off, e, _⟩ := HS.out (flatE_ne h)
      cases e
    subst hz
    go_enter Tryz.func112, Tryz.ntmps112
    go_wp2_with fail
    go_ret
    exact ⟨none, 0, rfl, Nat.le_refl _, fun h => absurd rfl h, Below.refl _ _⟩
  | some a =>
    have HO := Lib.hid (own_emptyE w 67 (base := w.heap.size) (Nat.le_refl _))
    have HS1 := Lib.hid (HS.out.alloc (Nat.le_refl _) (.cells #[] 67))
    go_enter Tryz.func112, Tryz.ntmps112
    go_wp2_with (at_builtin; refine Law.wpList_append_seq _ w.heap.size 41 rfl _ _ rfl HE.out _ 0 [] rfl HO.out 0 w.heap.size (some a) zs.length c (flatE zs) rfl (flatE_length zs) HS1.out (flatE_one _) (by unfold maxLen; omega) (by omega) (by simp) ?_)
    intro v1 w1 hown hgrow
    have B1 : Below w.heap.size w w1 := ((Below.refl _ w).alloc (Nat.le_refl _) (.cells #[] 67)).grown hgrow (by simp) (fun k hk => by have h9 : w.heap.size = k := Option.some.inj hk; omega)
    have OW : w1.ownsRow w.heap.size 67 8 v1 zs.length (flatE zs) := by simpa using hown
    obtain ⟨A1, c1, rfl, hc1⟩ := own_shape OW
    have HB := Lib.hid B1
    have HW := Lib.hid OW
    clear hown hgrow B1 OW HO HS1
    go_wp2_with fail
    go_ret
    exact ⟨A1, c1, rfl, hc1, Seq.own HW.out, HB.out⟩
/-- on the way of a merge: what is left of both, and what there is so far -/
def Mid (w : World) (us bs : List Ev) (va vb vm : Value) (wr : World) : Prop := ∃ (xs ys dn : List Ev) (A' B' : Option Addr) (ca' cb' : Nat), va = .slice A' xs.length ca' ∧ vb = .slice B' ys.length cb' ∧ xs.length ≤ ca' ∧ ys.length ≤ cb' ∧ Seq w 0 w.heap.size A' (flatE xs) ∧ Seq w 0 w.heap.size B' (flatE ys) ∧ wr.ownsRow w.heap.size 67 8 vm dn.length (flatE dn) ∧ Below w.heap.size w wr ∧ mrg us bs = dn ++ mrg xs ys ∧ dn.length + (xs.length + ys.length) ≤ 500
set_option maxRecDepth 100000 in
set_option maxHeartbeats 4000000 in
theorem merge (us bs : List Ev) (A B : Option Addr) (ca cb : Nat) (w : World) (ha : Seq w 0 w.heap.size A (flatE us)) (hb : Seq w 0 w.heap.size B (flatE bs)) (hca : us.length ≤ ca) (hcb : bs.length ≤ cb) (hl : us.length + bs.length ≤ 500) :
    Calls Tryz.prog 113 #[.slice A us.length ca, .slice B bs.length cb] w (Lists w (mrg us bs)) := by
  obtain ⟨i0, hE⟩ := RingE.elem
  have HE := Lib.hid hE
  have HA := Lib.hid ha
  have HB := Lib.hid hb
  clear hE ha hb
  obtain ⟨n0, hn0⟩ : ∃ n : Nat, us.length + bs.length = n := ⟨_, rfl⟩
  go_enter Tryz.func113, Tryz.ntmps113
  go_wp2_with (at_make; refine wpList_make_own _ rfl _ _ 41 rfl w.heap.size 67 i0 (.agg #[.string ⟨#[]⟩, .int .i64 0, .int .i64 0, .int .i64 0, .int .i64 0, .int .i64 0, .int .i64 0, .int .u64 0]) 8 HE.out.ut HE.out.info HE.out.zero HE.out.sz .i64 .i64 _ n0 rfl rfl (by first | omega | (simp; omega)) (by rw [HE.out.by_]; omega) (by unfold maxLen; omega) (Nat.le_refl _) ?_; intro w1 hown hgrow)
  have B1 : Below w.heap.size w w1 := (Below.refl _ w).grown hgrow (Nat.le_refl _) (by simp)
  have HB1 := Lib.hid B1
  have HO1 := Lib.hid hown
  clear B1 hown hgrow
  go_loopw [0, 1, 5] (fun va vb vm wr => Mid w us bs va vb vm wr) (fun va vb _ _ => slen va + slen vb)
  case atStart => exact ⟨us, bs, [], A, B, ca, cb, rfl, rfl, hca, hcb, HA.out, HB.out, HO1.out, HB1.out, rfl, by simp; omega⟩
  case round =>
    clear HA HB HB1 HO1
    obtain ⟨xs, ys, dn, A', B', ca', cb', rfl, rfl, hca', hcb', hA, hB, hO, hBel, hM, hN⟩ := hrel
    have HA := Lib.hid hA
    have HB := Lib.hid hB
    have HO := Lib.hid hO
    have HBel := Lib.hid hBel
    have HM := Lib.hid hM
    have sz := hBel.size
    clear hA hB hO hBel hM
    cases xs with
    | nil =>
      have HM2 : Hid (mrg us bs = dn ++ ([] : List Ev) ++ ys) := by show _ = _; rw [HM.out, mrg_nil]; simp
      have HA1 := Lib.hid (HA.out.below HBel.out)
      simp only [List.length_nil] at hN
      obtain ⟨D, cd, rfl, hcd⟩ := own_shape HO.out
      go_wp2_with (first | (at_builtin; refine Law.wpList_append_seq _ w.heap.size 41 rfl _ _ rfl HE.out _ (dn.length) (flatE dn) rfl HO.out 0 w.heap.size A' _ _ (flatE ([] : List Ev)) rfl (flatE_length ([] : List Ev)) HA1.out (flatE_one _) (by unfold maxLen; first | omega | (simp; omega)) (by first | omega | (simp; omega)) (by omega) ?_; intro v1 z1 hown1 hg1; have hb1 := HBel.out.grown hg1 sz (fun k hk => (HO.out.lt k hk).1); have HBL1 := Lib.hid hb1; have HO1 := Lib.hid hown1; have HB1 := Lib.hid (HB.out.below hb1); have sz1 := hb1.size; obtain ⟨D1, cd1, hD1, hcd1⟩ := own_shape hown1; subst hD1; clear hown1 hg1 hb1) | (at_builtin; refine Law.wpList_append_seq _ w.heap.size 41 rfl _ _ rfl HE.out _ (dn.length + ([] : List Ev).length) (flatE dn ++ flatE ([] : List Ev)) rfl HO1.out 0 w.heap.size B' _ _ (flatE ys) rfl (flatE_length ys) HB1.out (flatE_one _) (by unfold maxLen; first | omega | (simp; omega)) (by first | omega | (simp; omega)) (by omega) ?_; intro v2 z2 hown2 hg2; have hb2 := HBL1.out.grown hg2 sz1 (fun k hk => (HO1.out.lt k hk).1); have HBL2 := Lib.hid hb2; have HO2 := Lib.hid hown2; obtain ⟨D2, cd2, hD2, hcd2⟩ := own_shape hown2; subst hD2; clear hown2 hg2 hb2))
      go_ret
      refine ⟨D2, cd2, ?_, ?_, ?_, HBL2.out⟩
      · rw [HM2.out]; simp
      · rw [HM2.out]; simpa using hcd2
      · rw [HM2.out, flatE_app, flatE_app]; exact Seq.own HO2.out
    | cons x xs =>
      cases ys with
      | nil =>
        have HM2 : Hid (mrg us bs = dn ++ (x :: xs) ++ ([] : List Ev)) := by show _ = _; rw [HM.out, mrg_nil']; simp
        have HA1 := Lib.hid (HA.out.below HBel.out)
        simp only [List.length_cons, List.length_nil] at hN
        obtain ⟨D, cd, rfl, hcd⟩ := own_shape HO.out
        go_wp2_with (first | (at_builtin; refine Law.wpList_append_seq _ w.heap.size 41 rfl _ _ rfl HE.out _ (dn.length) (flatE dn) rfl HO.out 0 w.heap.size A' _ _ (flatE (x :: xs)) rfl (flatE_length (x :: xs)) HA1.out (flatE_one _) (by unfold maxLen; first | omega | (simp; omega)) (by first | omega | (simp; omega)) (by omega) ?_; intro v1 z1 hown1 hg1; have hb1 := HBel.out.grown hg1 sz (fun k hk => (HO.out.lt k hk).1); have HBL1 := Lib.hid hb1; have HO1 := Lib.hid hown1; have HB1 := Lib.hid (HB.out.below hb1); have sz1 := hb1.size; obtain ⟨D1, cd1, hD1, hcd1⟩ := own_shape hown1; subst hD1; clear hown1 hg1 hb1) | (at_builtin; refine Law.wpList_append_seq _ w.heap.size 41 rfl _ _ rfl HE.out _ (dn.length + (x :: xs).length) (flatE dn ++ flatE (x :: xs)) rfl HO1.out 0 w.heap.size B' _ _ (flatE ([] : List Ev)) rfl (flatE_length ([] : List Ev)) HB1.out (flatE_one _) (by unfold maxLen; first | omega | (simp; omega)) (by first | omega | (simp; omega)) (by omega) ?_; intro v2 z2 hown2 hg2; have hb2 := HBL1.out.grown hg2 sz1 (fun k hk => (HO1.out.lt k hk).1); have HBL2 := Lib.hid hb2; have HO2 := Lib.hid hown2; obtain ⟨D2, cd2, hD2, hcd2⟩ := own_shape hown2; subst hD2; clear hown2 hg2 hb2))
        go_ret
        refine ⟨D2, cd2, ?_, ?_, ?_, HBL2.out⟩
        · rw [HM2.out]; simp
        · rw [HM2.out]; simpa using hcd2
        · rw [HM2.out, flatE_app, flatE_app]; exact Seq.own HO2.out
      | cons y ys =>
        obtain ⟨ga, oa, rfl, _, hga, p0, p1, p2, p3, p4, p5, p6, p7⟩ := (HA.out.below HBel.out).ev (i := 0) (by simp)
        obtain ⟨gb, ob, rfl, _, hgb, q0, q1, q2, q3, q4, q5, q6, q7⟩ := (HB.out.below HBel.out).ev (i := 0) (by simp)
        simp only [List.getElem_cons_zero, Nat.zero_mul, Nat.add_zero] at p0 p1 p2 p3 p4 p5 p6 p7 q0 q1 q2 q3 q4 q5 q6 q7
        have lga : ga < wr.heap.size := by omega
        have lgb : gb < wr.heap.size := by omega
        simp only [List.length_cons] at hca' hcb' hN
        obtain ⟨D, cd, rfl, hcd⟩ := own_shape HO.out
        simp only [List.length_cons]
        go_wp2_with fail
        go_quiet (fail)
        by_cases hlt : y.sq < x.sq
        · skip
          have d2 : decide (y.sq < x.sq) = true := by simp; omega
          have HM2 : Hid (mrg us bs = (dn ++ [y]) ++ mrg (x :: xs) ys) := by show _ = _; rw [HM.out, mrg_cons, if_pos hlt]; simp
          go_wp2_with fail
          have hbq : Below wr.heap.size wr (wr.drewN nq) := Law.below_drewN (Below.refl _ wr) nq
          have HO2 := Lib.hid (own_below HO.out hbq)
          have HB2 := Lib.hid (HBel.out.trans (hbq.mono sz))
          have hz2 : w.heap.size ≤ (wr.drewN nq).heap.size := sz
          have lg2 : gb < (wr.drewN nq).heap.size := lgb
          have r0 := (hbq.cell (p := ⟨gb, ob, none⟩) lgb).trans q0
          have r1 := (hbq.cell (p := ⟨gb, ob + 1, none⟩) lgb).trans q1
          have r2 := (hbq.cell (p := ⟨gb, ob + 2, none⟩) lgb).trans q2
          have r3 := (hbq.cell (p := ⟨gb, ob + 3, none⟩) lgb).trans q3
          have r4 := (hbq.cell (p := ⟨gb, ob + 4, none⟩) lgb).trans q4
          have r5 := (hbq.cell (p := ⟨gb, ob + 5, none⟩) lgb).trans q5
          have r6 := (hbq.cell (p := ⟨gb, ob + 6, none⟩) lgb).trans q6
          have r7 := (hbq.cell (p := ⟨gb, ob + 7, none⟩) lgb).trans q7
          clear hbq p0 p1 p2 p3 p4 p5 p6 p7 q0 q1 q2 q3 q4 q5 q6 q7 HO HBel HM d2 hlt
          generalize wr.drewN nq = W2 at *
          have h1y : (1 : Int) ≤ (ys.length : Int) + 1 := by omega
          have O2 := Lib.hid (HO2.out.alloc (.cells y.box 67))
          have s0 := (World.cell?_alloc_lt W2 (.cells y.box 67) ⟨gb, ob, none⟩ lg2).trans r0
          have s1 := (World.cell?_alloc_lt W2 (.cells y.box 67) ⟨gb, ob + 1, none⟩ lg2).trans r1
          have s2 := (World.cell?_alloc_lt W2 (.cells y.box 67) ⟨gb, ob + 2, none⟩ lg2).trans r2
          have s3 := (World.cell?_alloc_lt W2 (.cells y.box 67) ⟨gb, ob + 3, none⟩ lg2).trans r3
          have s4 := (World.cell?_alloc_lt W2 (.cells y.box 67) ⟨gb, ob + 4, none⟩ lg2).trans r4
          have s5 := (World.cell?_alloc_lt W2 (.cells y.box 67) ⟨gb, ob + 5, none⟩ lg2).trans r5
          have s6 := (World.cell?_alloc_lt W2 (.cells y.box 67) ⟨gb, ob + 6, none⟩ lg2).trans r6
          have s7 := (World.cell?_alloc_lt W2 (.cells y.box 67) ⟨gb, ob + 7, none⟩ lg2).trans r7
          have HS : Hid (Seq w 0 w.heap.size (if cb' = 1 then some ⟨gb, ob, none⟩ else some ⟨gb, ob + 8, none⟩) (flatE ys)) := tail_if HB.out hcb'
          by_cases hc1 : cb' = 1
          · rw [if_pos hc1] at HS
            go_region_law (refine Law.step_append_at (base := w.heap.size) (t := 41) rfl (.tmp 29) (.tmp 33) rfl HE.out (.slice D dn.length cd) dn.length (flatE dn) (by simp [Act.eval]) (by exact O2.out) ⟨W2.heap.size, 0, none⟩ 1 1 (cellsE y) (by simp [Act.eval]) (by rfl) (by exact new_E W2 y _ rfl) (one_E y) (by unfold maxLen; omega) (by omega) (by show w.heap.size ≤ (W2.alloc _).heap.size; simp; omega) ?_; intro v' w1 hown hg hv'; have OW := Lib.hid hown; have G := Lib.hid hg; clear hown hg hv')
            all_goals
              have B3 := Lib.hid ((HB2.out.alloc hz2 (.cells y.box 67)).drew.grown G.out (by simp; omega) (fun k hk => (HO2.out.lt k hk).1))
              simp only [List.getElem_toArray, List.getElem_cons_zero, List.getElem_cons_succ, Act.put, List.setIfInBounds_toArray, List.set_cons_zero, List.set_cons_succ]
              go_wp2_with fail
              go_roundw
              case rel => exact ⟨x :: xs, ys, dn ++ [y], _, _, _, _, rfl, rfl, by first | (simp only [List.length_cons]; omega) | omega, by first | (simp only [List.length_cons]; omega) | omega, HA.out, HS.out, by rw [flatE_snoc, List.length_append]; exact OW.out, B3.out, HM2.out, by simp; omega⟩
              case measure => simp [slen]
          · rw [if_neg hc1] at HS
            go_region_law (refine Law.step_append_at (base := w.heap.size) (t := 41) rfl (.tmp 29) (.tmp 33) rfl HE.out (.slice D dn.length cd) dn.length (flatE dn) (by simp [Act.eval]) (by exact O2.out) ⟨W2.heap.size, 0, none⟩ 1 1 (cellsE y) (by simp [Act.eval]) (by rfl) (by exact new_E W2 y _ rfl) (one_E y) (by unfold maxLen; omega) (by omega) (by show w.heap.size ≤ (W2.alloc _).heap.size; simp; omega) ?_; intro v' w1 hown hg hv'; have OW := Lib.hid hown; have G := Lib.hid hg; clear hown hg hv')
            all_goals
              have B3 := Lib.hid ((HB2.out.alloc hz2 (.cells y.box 67)).drew.grown G.out (by simp; omega) (fun k hk => (HO2.out.lt k hk).1))
              simp only [List.getElem_toArray, List.getElem_cons_zero, List.getElem_cons_succ, Act.put, List.setIfInBounds_toArray, List.set_cons_zero, List.set_cons_succ]
              go_wp2_with fail
              go_roundw
              case rel => exact ⟨x :: xs, ys, dn ++ [y], _, _, _, _, rfl, rfl, by first | (simp only [List.length_cons]; omega) | omega, by first | (simp only [List.length_cons]; omega) | omega, HA.out, HS.out, by rw [flatE_snoc, List.length_append]; exact OW.out, B3.out, HM2.out, by simp; omega⟩
              case measure => simp [slen]
        · skip
          have d2 : decide (y.sq < x.sq) = false := by simp; omega
          have HM2 : Hid (mrg us bs = (dn ++ [x]) ++ mrg xs (y :: ys)) := by show _ = _; rw [HM.out, mrg_cons, if_neg hlt]; simp
          go_wp2_with fail
          have hbq : Below wr.heap.size wr (wr.drewN nq) := Law.below_drewN (Below.refl _ wr) nq
          have HO2 := Lib.hid (own_below HO.out hbq)
          have HB2 := Lib.hid (HBel.out.trans (hbq.mono sz))
          have hz2 : w.heap.size ≤ (wr.drewN nq).heap.size := sz
          have lg2 : ga < (wr.drewN nq).heap.size := lga
          have r0 := (hbq.cell (p := ⟨ga, oa, none⟩) lga).trans p0
          have r1 := (hbq.cell (p := ⟨ga, oa + 1, none⟩) lga).trans p1
          have r2 := (hbq.cell (p := ⟨ga, oa + 2, none⟩) lga).trans p2
          have r3 := (hbq.cell (p := ⟨ga, oa + 3, none⟩) lga).trans p3
          have r4 := (hbq.cell (p := ⟨ga, oa + 4, none⟩) lga).trans p4
          have r5 := (hbq.cell (p := ⟨ga, oa + 5, none⟩) lga).trans p5
          have r6 := (hbq.cell (p := ⟨ga, oa + 6, none⟩) lga).trans p6
          have r7 := (hbq.cell (p := ⟨ga, oa + 7, none⟩) lga).trans p7
          clear hbq p0 p1 p2 p3 p4 p5 p6 p7 q0 q1 q2 q3 q4 q5 q6 q7 HO HBel HM d2 hlt
          generalize wr.drewN nq = W2 at *
          have h1y : (1 : Int) ≤ (xs.length : Int) + 1 := by omega
          have O2 := Lib.hid (HO2.out.alloc (.cells x.box 67))
          have s0 := (World.cell?_alloc_lt W2 (.cells x.box 67) ⟨ga, oa, none⟩ lg2).trans r0
          have s1 := (World.cell?_alloc_lt W2 (.cells x.box 67) ⟨ga, oa + 1, none⟩ lg2).trans r1
          have s2 := (World.cell?_alloc_lt W2 (.cells x.box 67) ⟨ga, oa + 2, none⟩ lg2).trans r2
          have s3 := (World.cell?_alloc_lt W2 (.cells x.box 67) ⟨ga, oa + 3, none⟩ lg2).trans r3
          have s4 := (World.cell?_alloc_lt W2 (.cells x.box 67) ⟨ga, oa + 4, none⟩ lg2).trans r4
          have s5 := (World.cell?_alloc_lt W2 (.cells x.box 67) ⟨ga, oa + 5, none⟩ lg2).trans r5
          have s6 := (World.cell?_alloc_lt W2 (.cells x.box 67) ⟨ga, oa + 6, none⟩ lg2).trans r6
          have s7 := (World.cell?_alloc_lt W2 (.cells x.box 67) ⟨ga, oa + 7, none⟩ lg2).trans r7
          have HS : Hid (Seq w 0 w.heap.size (if ca' = 1 then some ⟨ga, oa, none⟩ else some ⟨ga, oa + 8, none⟩) (flatE xs)) := tail_if HA.out hca'
          by_cases hc1 : ca' = 1
          · rw [if_pos hc1] at HS
            go_region_law (refine Law.step_append_at (base := w.heap.size) (t := 41) rfl (.tmp 37) (.tmp 41) rfl HE.out (.slice D dn.length cd) dn.length (flatE dn) (by simp [Act.eval]) (by exact O2.out) ⟨W2.heap.size, 0, none⟩ 1 1 (cellsE x) (by simp [Act.eval]) (by rfl) (by exact new_E W2 x _ rfl) (one_E x) (by unfold maxLen; omega) (by omega) (by show w.heap.size ≤ (W2.alloc _).heap.size; simp; omega) ?_; intro v' w1 hown hg hv'; have OW := Lib.hid hown; have G := Lib.hid hg; clear hown hg hv')
            all_goals
              have B3 := Lib.hid ((HB2.out.alloc hz2 (.cells x.box 67)).drew.grown G.out (by simp; omega) (fun k hk => (HO2.out.lt k hk).1))
              simp only [List.getElem_toArray, List.getElem_cons_zero, List.getElem_cons_succ, Act.put, List.setIfInBounds_toArray, List.set_cons_zero, List.set_cons_succ]
              go_wp2_with fail
              go_roundw
              case rel => exact ⟨xs, y :: ys, dn ++ [x], _, _, _, _, rfl, rfl, by first | (simp only [List.length_cons]; omega) | omega, by first | (simp only [List.length_cons]; omega) | omega, HS.out, HB.out, by rw [flatE_snoc, List.length_append]; exact OW.out, B3.out, HM2.out, by simp; omega⟩
              case measure => simp [slen]
          · rw [if_neg hc1] at HS
            go_region_law (refine Law.step_append_at (base := w.heap.size) (t := 41) rfl (.tmp 37) (.tmp 41) rfl HE.out (.slice D dn.length cd) dn.length (flatE dn) (by simp [Act.eval]) (by exact O2.out) ⟨W2.heap.size, 0, none⟩ 1 1 (cellsE x) (by simp [Act.eval]) (by rfl) (by exact new_E W2 x _ rfl) (one_E x) (by unfold maxLen; omega) (by omega) (by show w.heap.size ≤ (W2.alloc _).heap.size; simp; omega) ?_; intro v' w1 hown hg hv'; have OW := Lib.hid hown; have G := Lib.hid hg; clear hown hg hv')
            all_goals
              have B3 := Lib.hid ((HB2.out.alloc hz2 (.cells x.box 67)).drew.grown G.out (by simp; omega) (fun k hk => (HO2.out.lt k hk).1))
              simp only [List.getElem_toArray, List.getElem_cons_zero, List.getElem_cons_succ, Act.put, List.setIfInBounds_toArray, List.set_cons_zero, List.set_cons_succ]
              go_wp2_with fail
              go_roundw
              case rel => exact ⟨xs, y :: ys, dn ++ [x], _, _, _, _, rfl, rfl, by first | (simp only [List.length_cons]; omega) | omega, by first | (simp only [List.length_cons]; omega) | omega, HS.out, HB.out, by rw [flatE_snoc, List.length_append]; exact OW.out, B3.out, HM2.out, by simp; omega⟩
              case measure => simp [slen]
end Feed
end Go.Proofs.YtdkjcheannehhaaGreat
