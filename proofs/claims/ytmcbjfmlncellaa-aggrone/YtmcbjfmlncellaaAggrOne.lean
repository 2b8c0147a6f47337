/-
  AggrOne: whatever the sessions, the session and the time, the statement's function returns true, and the arguments read as before. No condition. (Written by mkone.py.)
-/
import Derived.Test.YtmcbjfmlncellaaAggr04
import Derived.Test.YtmcbjfmlncellaaSessO
import Derived.Deep.RegionHeld
import Derived.Deep.RegionHeld3
import Derived.OrdersHeld
import Derived.Deep.RegionLaw
import Derived.Deep.DeepCutAuto
import Derived.Lib.QuietBelow
import Derived.BigQuiet
namespace Go.Law
/-- s counts more than each of them -/
def allB (s : Sn) (l : List Sn) : Bool := l.all fun q => better s q
theorem allB_snoc (s : Sn) (l : List Sn) (x : Sn) : allB s (l ++ [x]) = (allB s l && better s x) := by simp [allB]
theorem allB_top {s : Sn} {l : List Sn} (h : allB s l = true) : top (l ++ [s]) = s := by
  rw [top_snoc]
  by_cases hl : l = []
  · subst hl; rw [if_pos (.inl rfl)]
  · exact if_pos (.inr ((List.all_eq_true.1 h) _ (top_mem hl)))
theorem allB_not {s : Sn} {l : List Sn} (h : allB s l = false) : top (l ++ [s]) = top l := by
  obtain ⟨q, hq, hb⟩ := List.all_eq_false.1 h
  rw [top_snoc]
  refine if_neg ?_
  rintro (h0 | h1)
  · rw [List.eq_nil_of_length_eq_zero h0] at hq; cases hq
  · exact hb (better_over h1 (top_most hq))
end Go.Law
namespace Go.Proofs.Ytmcbjfmlncellaa.aggrOne
open Go.ChangeShapes Go.WideShapes Go.ChangeAt Go.RowKit
open Go.Law Go.Proofs.Ytmcbjfmlncellaa.Aggr
theorem betterX (a0 a1 a2 a3 b0 b1 b2 b3 : Int) (r : Bool) (hr : better (a0, a1, a2, a3) (b0, b1, b2, b3) = r) (w : World) :
    Calls Try.prog 16 #[.agg #[.int .i64 a0, .int .i64 a1, .int .i64 a2, .int .u64 a3], .agg #[.int .i64 b0, .int .i64 b1, .int .i64 b2, .int .u64 b3]] w fun e w' => e = .returned (.bool r) ∧ Below w.heap.size w w' :=
  (better_ (a0, a1, a2, a3) (b0, b1, b2, b3) r hr w).mono fun _ _ ⟨h1, h2⟩ => ⟨h1, h2 ▸ ((Below.refl _ w).alloc (Nat.le_refl _) _).alloc (by simp) _⟩

set_option maxRecDepth 100000 in
set_option maxHeartbeats 16000000 in
theorem walk (zs : List Sn) (A : Option Addr) (c : Nat) (s : Sn) (now : Int) (w : World) (hs : Seq w 0 w.heap.size A (flatS zs)) (hl : zs.length ≤ maxLen) :
    Calls Try.prog 6 #[.slice A zs.length c, V s, .int .u64 now] w fun e w' => e = .returned (.bool true) ∧ Below w.heap.size w w' := by
  obtain ⟨i0, hE⟩ := Sess.elem
  have HE := Lib.hid hE
  have HS := Lib.hid hs
  have HLM := Lib.hid hl
  unfold maxLen at hl
  obtain ⟨x0, x1, x2, x3⟩ := s
  unfold V
  clear hs hE
  have B0 := (Below.refl w.heap.size w).alloc (Nat.le_refl _) (.cells #[.int .i64 x0, .int .i64 x1, .int .i64 x2, .int .u64 x3] 30)
  have I0 := Is.new w 30 #[.int .i64 x0, .int .i64 x1, .int .i64 x2, .int .u64 x3] rfl
  by_cases hf : 200 < zs.length
  · have d0 : decide ((200 : Int) < (zs.length : Int)) = true := by simp; omega
    go_enter Try.func6, Try.ntmps6
    go_wp2_with fail
    generalize w.alloc (.cells #[.int .i64 x0, .int .i64 x1, .int .i64 x2, .int .u64 x3] 30) = w0 at *
    refine (awake _).mono ?_
    rintro e w1 ⟨rfl, b1⟩
    have B1 := Lib.hid (B0.trans (b1.mono B0.size))
    clear b1 B0 I0
    go_wp2_with fail
    refine (awake _).mono ?_
    rintro e w2 ⟨rfl, b2⟩
    have B2 := Lib.hid (B1.out.trans (b2.mono B1.out.size))
    clear b2
    go_wp2_with fail
    go_ret
    exact ⟨rfl, B2.out⟩
  · have d0 : decide ((200 : Int) < (zs.length : Int)) = false := by simp; omega
    have hl2 : zs.length ≤ 200 := by omega
    have hml := live_length now zs
    obtain ⟨Q0, Q1, m, e0, e1, e2⟩ : ∃ P0 P1 m, (top (live now zs)).2.1 = P0 ∧ (top (live now zs)).2.2.1 = P1 ∧ (live now zs).length = m := ⟨_, _, _, rfl, rfl, rfl⟩
    have HP : Hid (PV (live now zs) = .agg #[.int .i64 Q0, .int .i64 Q1, .int .i64 (m : Int)]) := by show _ = _; unfold PV; rw [e0, e1, e2]
    rw [e2] at hml
    obtain ⟨P0, P1, m', p0, p1, p2⟩ : ∃ P0 P1 m, (top (live now (zs ++ [(x0, x1, x2, x3)]))).2.1 = P0 ∧ (top (live now (zs ++ [(x0, x1, x2, x3)]))).2.2.1 = P1 ∧ (live now (zs ++ [(x0, x1, x2, x3)])).length = m := ⟨_, _, _, rfl, rfl, rfl⟩
    have HP' : Hid (PV (live now (zs ++ [(x0, x1, x2, x3)])) = .agg #[.int .i64 P0, .int .i64 P1, .int .i64 (m' : Int)]) := by show _ = _; unfold PV; rw [p0, p1, p2]
    have HN : Hid (¬ now < x3 → P0 = Q0 ∧ P1 = Q1 ∧ m' = m) := fun h => by
      have e : live now (zs ++ [(x0, x1, x2, x3)]) = live now zs := by rw [live_snoc, if_neg h]
      rw [e] at p0 p1 p2
      exact ⟨by rw [← p0, e0], by rw [← p1, e1], by rw [← p2, e2]⟩
    have HY : Hid (now < x3 → m' = m + 1 ∧ (allB (x0, x1, x2, x3) (live now zs) = true → P0 = x1 ∧ P1 = x2) ∧ (allB (x0, x1, x2, x3) (live now zs) = false → P0 = Q0 ∧ P1 = Q1)) := fun h => by
      have e : live now (zs ++ [(x0, x1, x2, x3)]) = live now zs ++ [(x0, x1, x2, x3)] := by rw [live_snoc, if_pos h]
      rw [e] at p0 p1 p2
      refine ⟨by rw [← p2, ← e2]; simp, fun ha => ?_, fun ha => ?_⟩
      · rw [allB_top ha] at p0 p1
        exact ⟨p0.symm, p1.symm⟩
      · rw [allB_not ha] at p0 p1
        exact ⟨by rw [← p0, e0], by rw [← p1, e1]⟩
    clear e0 e1 e2 p0 p1 p2
    go_enter Try.func6, Try.ntmps6
    go_wp2_with fail
    generalize w.alloc (.cells #[.int .i64 x0, .int .i64 x1, .int .i64 x2, .int .u64 x3] 30) = w0 at *
    refine (awake _).mono ?_
    rintro e w1 ⟨rfl, b1⟩
    have B1 := Lib.hid (B0.trans (b1.mono B0.size))
    have S1 := Lib.hid ((HS.out.below B1.out).more B1.out.size)
    have I1 := Lib.hid (I0.below b1 I0.lt)
    clear b1 HS B0 I0
    have lg := I1.out.lt
    go_wp2_with fail
    refine (ofE now zs A c zs.length w1 _ rfl HP.out S1.out HLM.out).mono ?_
    rintro e w2 ⟨rfl, b2⟩
    have B2 := B1.out.trans (b2.mono B1.out.size)
    have S2 := (S1.out.below b2).more b2.size
    have I2 := I1.out.below b2 I1.out.lt
    have I7 := Is.new w2 33 #[.int .i64 Q0, .int .i64 Q1, .int .i64 (m : Int)] rfl
    have B3 := Lib.hid (B2.alloc B2.size (.cells #[.int .i64 Q0, .int .i64 Q1, .int .i64 (m : Int)] 33))
    have HSQ := Lib.hid ((S2.alloc (Nat.le_refl _) (.cells #[.int .i64 Q0, .int .i64 Q1, .int .i64 (m : Int)] 33)).more (Nat.le_of_lt I7.lt))
    have I4 := Lib.hid (I2.alloc (.cells #[.int .i64 Q0, .int .i64 Q1, .int .i64 (m : Int)] 33))
    have I7 := Lib.hid I7
    clear b2 B2 S2 I2 S1 I1 B1 lg
    go_wp2_with fail
    generalize w2.alloc (.cells #[.int .i64 Q0, .int .i64 Q1, .int .i64 (m : Int)] 33) = w3 at *
    obtain ⟨g7, hg7⟩ : ∃ g, w2.heap.size = g := ⟨_, rfl⟩
    rw [hg7] at I7 ⊢
    obtain ⟨gs, hgs⟩ : ∃ g, w.heap.size = g := ⟨_, rfl⟩
    rw [hgs] at I4 ⊢
    have HB3 := B3
    clear hg7 hgs B3
    have HO : Hid (∀ A7 c7 W, World.ownsRow W w3.heap.size 30 4 (.slice A7 (zs.length + 1) c7) (zs.length + 1) (flatS (zs ++ [(x0, x1, x2, x3)])) → Below w3.heap.size w3 W → Calls Try.prog 13 #[.slice A7 (zs.length + 1) c7, .int .u64 now] W fun e W2 => e = .returned (.agg #[.int .i64 P0, .int .i64 P1, .int .i64 (m' : Int)]) ∧ Below W.heap.size W W2 ∧ Below w3.heap.size w3 W2) := fun A7 c7 W ho K =>
      (ofE now (zs ++ [(x0, x1, x2, x3)]) A7 c7 (zs.length + 1) W _ (by simp) HP'.out ((Seq.own ho).from_ (Nat.zero_le _)) (by simp [maxLen]; omega)).mono fun _ _ ⟨h1, h2⟩ => ⟨h1, h2, K.trans (h2.mono K.size)⟩
    have HK : Hid (∀ w', Below w3.heap.size w3 w' → (fun w' => (w'.cell? ⟨gs, 0, none⟩ = some (.int .i64 x0) ∧ w'.cell? ⟨gs, 1, none⟩ = some (.int .i64 x1) ∧ w'.cell? ⟨gs, 2, none⟩ = some (.int .i64 x2) ∧ w'.cell? ⟨gs, 3, none⟩ = some (.int .u64 x3)) ∧ Below w3.heap.size w3 w') w') := fun w' K =>
      ⟨⟨(I4.out.below K I4.out.lt).cell' rfl, (I4.out.below K I4.out.lt).cell' rfl, (I4.out.below K I4.out.lt).cell' rfl, (I4.out.below K I4.out.lt).cell' rfl⟩, K⟩
    have K0 : Below w3.heap.size w3 w3.drew := (Below.refl _ _).drew
    go_upto_region 4 with (fail)
    go_cut [8] (fun v wx => ∃ g8, v = .pointer (some ⟨g8, 0, none⟩) ∧ Is wx g8 33 #[.int .i64 P0, .int .i64 P1, .int .i64 (m' : Int)] ∧ Below w3.heap.size w3 wx)
    case first =>
      refine wp_region_held_drew (S := (fun w' => (w'.cell? ⟨gs, 0, none⟩ = some (.int .i64 x0) ∧ w'.cell? ⟨gs, 1, none⟩ = some (.int .i64 x1) ∧ w'.cell? ⟨gs, 2, none⟩ = some (.int .i64 x2) ∧ w'.cell? ⟨gs, 3, none⟩ = some (.int .u64 x3)) ∧ Below w3.heap.size w3 w')) (by kernel_rfl) (HK.out _ K0) (fun hS => ?_)
      have HB := Lib.hid K0
      clear K0
      generalize w3.drew = W0 at *
      refine wpAnyH_take (i := 1) (oi := { dst := some 23, op := .move (.tmp 0), type := _, pos := _, after := _, guard := _ }) (v := (.slice A zs.length c)) rfl (by kernel_rfl) (by kernel_rfl) (by kernel_rfl) (fun _ _ _ h => h) (Or.inl ⟨by rfl, ?_⟩) hS ?_
      · intro w' hSw
        go_simp
      try simp only [Act.put, List.setIfInBounds_toArray, List.set_cons_zero, List.set_cons_succ]
      refine wpAnyH_take (i := 3) (oi := { dst := some 25, op := .load 30 (.tmp 4), type := _, pos := _, after := _, guard := _ }) (v := (.agg #[.int .i64 x0, .int .i64 x1, .int .i64 x2, .int .u64 x3])) rfl (by kernel_rfl) (by kernel_rfl) (by kernel_rfl) (fun _ _ _ h => h) (Or.inl ⟨by rfl, ?_⟩) hS ?_
      · intro w' hSw
        go_simp
      try simp only [Act.put, List.setIfInBounds_toArray, List.set_cons_zero, List.set_cons_succ]
      refine wpAnyH_take (i := 6) (oi := { dst := some 28, op := .move (.tmp 2), type := _, pos := _, after := _, guard := _ }) (v := (.int .u64 now)) rfl (by kernel_rfl) (by kernel_rfl) (by kernel_rfl) (fun _ _ _ h => h) (Or.inl ⟨by rfl, ?_⟩) hS ?_
      · intro w' hSw
        go_simp
      try simp only [Act.put, List.setIfInBounds_toArray, List.set_cons_zero, List.set_cons_succ]
      clear hS
      refine wpAnyH_ready (rs := [0, 4, 8]) (by kernel_rfl) (by simp) ?_
      refine AllReadyH.cons (o := { dst := some 22, op := .buildSlice 22 0 #[], type := _, pos := _, after := _, guard := _ }) rfl (fun K hK => ?_) ?_
      · go_simp
        refine hK.out _ _ (HK.out _ (HB.out.alloc HB.out.size (.cells #[] 30))) (fun _ => ?_)
        clear hK K
        try simp only [Act.put, List.setIfInBounds_toArray, List.set_cons_zero, List.set_cons_succ]
        have HB2 := Lib.hid (HB.out.alloc HB.out.size (.cells #[] 30))
        have sb := HB.out.size
        have OA2 := Lib.hid (own_empty W0 30 (base := w3.heap.size) sb)
        have na : w3.heap.size ≤ W0.heap.size := sb
        have la2 : W0.heap.size < (W0.alloc (.cells #[] 30)).heap.size := by simp
        generalize W0.alloc (.cells #[] 30) = W1 at *
        clear HB sb
        generalize W0.heap.size = ga at *
        have HB := HB2
        clear HB2
        have OA := OA2
        clear OA2
        have la := la2
        clear la2
        refine wpAnyH_ready (rs := [2, 4, 8]) (by kernel_rfl) (by simp) ?_
        refine AllReadyH.cons (o := { dst := some 24, op := .call { callee := .builtin .append, args := #[.tmp 22, .tmp 23], argTypes := #[22, 22] }, type := _, pos := _, after := _, guard := _ }) rfl (fun K hK => ?_) ?_
        · refine Law.step_append_seq _ w3.heap.size 22 rfl (.tmp 22) (.tmp 23) rfl HE.out (.slice (some ⟨ga, 0, none⟩) 0 0) 0 [] (by simp [Act.eval]) (by exact OA.out) 0 w3.heap.size A zs.length c (flatS zs) (by simp [Act.eval]) (flatS_length zs) (HSQ.out.below HB.out) (flatS_one _) (by unfold maxLen; omega) (by omega) HB.out.size ?_
          intro v2 W2 own grow
          have hb2 : Below w3.heap.size w3 W2 := HB.out.grown grow HB.out.size (fun g hg => by have h9 : ga = g := Option.some.inj hg; omega)
          refine hK.out _ _ (HK.out _ hb2) (fun _ => ?_)
          clear hK K
          try simp only [Act.put, List.setIfInBounds_toArray, List.set_cons_zero, List.set_cons_succ]
          have OA2 : Hid (W2.ownsRow w3.heap.size 30 4 v2 zs.length (flatS zs)) := by show World.ownsRow _ _ _ _ _ _ _; simpa using own
          have HB2 := Lib.hid hb2
          obtain ⟨A4, c4, rfl, _⟩ := own_shape OA2.out
          clear own grow hb2 HB OA la
          have HB := HB2
          have OA := OA2
          clear HB2 OA2
          refine wpAnyH_ready (rs := [4, 8]) (by kernel_rfl) (by simp) ?_
          refine AllReadyH.cons (o := { dst := some 26, op := .buildSlice 22 1 #[(0, .tmp 25)], type := _, pos := _, after := _, guard := _ }) rfl (fun K hK => ?_) ?_
          · go_simp
            refine hK.out _ _ (HK.out _ (HB.out.alloc HB.out.size (.cells #[.int .i64 x0, .int .i64 x1, .int .i64 x2, .int .u64 x3] 30))) (fun _ => ?_)
            clear hK K
            try simp only [Act.put, List.setIfInBounds_toArray, List.set_cons_zero, List.set_cons_succ]
            have HB2 := Lib.hid (HB.out.alloc HB.out.size (.cells #[.int .i64 x0, .int .i64 x1, .int .i64 x2, .int .u64 x3] 30))
            have sb := HB.out.size
            have OA2 := Lib.hid (OA.out.alloc (.cells #[.int .i64 x0, .int .i64 x1, .int .i64 x2, .int .u64 x3] 30))
            have IC2 := Lib.hid (Is.new W2 30 #[.int .i64 x0, .int .i64 x1, .int .i64 x2, .int .u64 x3] rfl)
            generalize W2.alloc (.cells #[.int .i64 x0, .int .i64 x1, .int .i64 x2, .int .u64 x3] 30) = W3 at *
            clear HB sb OA
            generalize W2.heap.size = gc at *
            have HB := HB2
            clear HB2
            have OA := OA2
            clear OA2
            have IC := IC2
            clear IC2
            refine wpAnyH_ready (rs := [5, 8]) (by kernel_rfl) (by simp) ?_
            refine AllReadyH.cons (o := { dst := some 27, op := .call { callee := .builtin .append, args := #[.tmp 24, .tmp 26], argTypes := #[22, 22] }, type := _, pos := _, after := _, guard := _ }) rfl (fun K hK => ?_) ?_
            · refine Law.step_append_seq _ w3.heap.size 22 rfl (.tmp 24) (.tmp 26) rfl HE.out (.slice A4 zs.length c4) zs.length (flatS zs) (by simp [Act.eval]) (by exact OA.out) gc (gc + 1) (some ⟨gc, 0, none⟩) 1 1 (cellsS (x0, x1, x2, x3)) (by simp [Act.eval]) rfl (Is.seqS IC.out) (four_one _) (by unfold maxLen; omega) (by omega) HB.out.size ?_
              intro v4 W4 own grow
              have hb2 : Below w3.heap.size w3 W4 := HB.out.grown grow HB.out.size (fun g hg => (OA.out.lt g hg).1)
              refine hK.out _ _ (HK.out _ hb2) (fun _ => ?_)
              clear hK K
              try simp only [Act.put, List.setIfInBounds_toArray, List.set_cons_zero, List.set_cons_succ]
              have OA2 : Hid (W4.ownsRow w3.heap.size 30 4 v4 (zs.length + 1) (flatS (zs ++ [(x0, x1, x2, x3)]))) := by show World.ownsRow _ _ _ _ _ _ _; rw [flatS_snoc]; exact own
              have HB2 := Lib.hid hb2
              obtain ⟨A7, c7, rfl, _⟩ := own_shape OA2.out
              clear own grow hb2 HB OA IC
              have HB := HB2
              have OA := OA2
              clear HB2 OA2
              refine wpAnyH_ready (rs := [7, 8]) (by kernel_rfl) (by simp) ?_
              refine AllReadyH.cons (o := { dst := some 29, op := .call { callee := .value (.func 13), args := #[.tmp 27, .tmp 28], argTypes := #[22, 23] }, type := _, pos := _, after := _, guard := _ }) rfl (fun K hK => ?_) ?_
              · go_simp
                refine Calls.mono (HO.out A7 c7 W4 OA.out HB.out) ?_
                rintro e W5 ⟨rfl, hb1, hb2⟩
                go_wp2_with fail
                refine hK.out _ _ (HK.out _ hb2) (fun _ => ?_)
                clear hK K
                try simp only [Act.put, List.setIfInBounds_toArray, List.set_cons_zero, List.set_cons_succ]
                have HB2 := Lib.hid hb2
                have OA2 := Lib.hid (own_below OA.out hb1)
                clear hb1 hb2 HB OA
                have HB := HB2
                have OA := OA2
                clear HB2 OA2
                refine wpAnyH_ready (rs := [8]) (by kernel_rfl) (by simp) ?_
                refine AllReadyH.cons (o := { dst := some 8, op := .alloc 33, type := _, pos := _, after := _, guard := _ }) rfl (fun K hK => ?_) AllReadyH.nil
                go_simp
                refine hK.out _ _ (HK.out _ (HB.out.alloc HB.out.size (.cells #[.int .i64 0, .int .i64 0, .int .i64 0] 33))) (fun _ => ?_)
                clear hK K
                try simp only [Act.put, List.setIfInBounds_toArray, List.set_cons_zero, List.set_cons_succ]
                have HB2 := Lib.hid (HB.out.alloc HB.out.size (.cells #[.int .i64 0, .int .i64 0, .int .i64 0] 33))
                have sb := HB.out.size
                have OA2 := Lib.hid (OA.out.alloc (.cells #[.int .i64 0, .int .i64 0, .int .i64 0] 33))
                have IF2 := Lib.hid (Is.new W5 33 #[.int .i64 0, .int .i64 0, .int .i64 0] rfl)
                have nf : w3.heap.size ≤ W5.heap.size := sb
                generalize W5.alloc (.cells #[.int .i64 0, .int .i64 0, .int .i64 0] 33) = W6 at *
                clear HB sb OA
                generalize W5.heap.size = gf at *
                have HB := HB2
                clear HB2
                have OA := OA2
                clear OA2
                have IF := IF2
                clear IF2
                refine wpAnyH_ready (rs := [9]) (by kernel_rfl) (by simp) ?_
                refine AllReadyH.cons (o := { dst := none, op := .store 33 (.tmp 8) (.tmp 29), type := _, pos := _, after := _, guard := _ }) rfl (fun K hK => ?_) AllReadyH.nil
                have c80 : W6.cell? ⟨gf, 0, none⟩ = some (.int .i64 0) := IF.out.cell' rfl
                have c81 : W6.cell? ⟨gf, 1, none⟩ = some (.int .i64 0) := IF.out.cell' rfl
                have c82 : W6.cell? ⟨gf, 2, none⟩ = some (.int .i64 0) := IF.out.cell' rfl
                have f80 := IF.out.frozen 0
                have f81 := IF.out.frozen 1
                have f82 := IF.out.frozen 2
                go_simp
                have hb2 := ((HB.out.setCell (p := ⟨gf, 0, none⟩) nf (.int .i64 P0)).setCell (p := ⟨gf, 1, none⟩) nf (.int .i64 P1)).setCell (p := ⟨gf, 2, none⟩) nf (.int .i64 (m' : Int))
                have if2 := ((IF.out.set 0 (.int .i64 P0) rfl).set 1 (.int .i64 P1) rfl).set 2 (.int .i64 (m' : Int)) rfl
                refine hK.out _ _ (HK.out _ hb2) (fun _ => ?_)
                clear hK K
                try simp only [Act.put, List.setIfInBounds_toArray, List.set_cons_zero, List.set_cons_succ]
                refine wpAnyH_done (by kernel_rfl) ?_ _
                go_wp2_with fail
                go_meet
                exact ⟨gf, rfl, if2, hb2⟩
              refine AllReadyH.cons (o := { dst := some 8, op := .alloc 33, type := _, pos := _, after := _, guard := _ }) rfl (fun K hK => ?_) AllReadyH.nil
              go_simp
              refine hK.out _ _ (HK.out _ (HB.out.alloc HB.out.size (.cells #[.int .i64 0, .int .i64 0, .int .i64 0] 33))) (fun _ => ?_)
              clear hK K
              try simp only [Act.put, List.setIfInBounds_toArray, List.set_cons_zero, List.set_cons_succ]
              have HB2 := Lib.hid (HB.out.alloc HB.out.size (.cells #[.int .i64 0, .int .i64 0, .int .i64 0] 33))
              have sb := HB.out.size
              have OA2 := Lib.hid (OA.out.alloc (.cells #[.int .i64 0, .int .i64 0, .int .i64 0] 33))
              have IF2 := Lib.hid (Is.new W4 33 #[.int .i64 0, .int .i64 0, .int .i64 0] rfl)
              have nf : w3.heap.size ≤ W4.heap.size := sb
              generalize W4.alloc (.cells #[.int .i64 0, .int .i64 0, .int .i64 0] 33) = W8 at *
              clear HB sb OA
              generalize W4.heap.size = gf at *
              have HB := HB2
              clear HB2
              have OA := OA2
              clear OA2
              have IF := IF2
              clear IF2
              refine wpAnyH_ready (rs := [7]) (by kernel_rfl) (by simp) ?_
              refine AllReadyH.cons (o := { dst := some 29, op := .call { callee := .value (.func 13), args := #[.tmp 27, .tmp 28], argTypes := #[22, 23] }, type := _, pos := _, after := _, guard := _ }) rfl (fun K hK => ?_) AllReadyH.nil
              go_simp
              refine Calls.mono (HO.out A7 c7 W8 OA.out HB.out) ?_
              rintro e W9 ⟨rfl, hb1, hb2⟩
              go_wp2_with fail
              refine hK.out _ _ (HK.out _ hb2) (fun _ => ?_)
              clear hK K
              try simp only [Act.put, List.setIfInBounds_toArray, List.set_cons_zero, List.set_cons_succ]
              have HB2 := Lib.hid hb2
              have OA2 := Lib.hid (own_below OA.out hb1)
              have IF2 := Lib.hid (IF.out.below hb1 IF.out.lt)
              clear hb1 hb2 HB OA IF
              have HB := HB2
              have OA := OA2
              clear HB2 OA2
              have IF := IF2
              clear IF2
              refine wpAnyH_ready (rs := [9]) (by kernel_rfl) (by simp) ?_
              refine AllReadyH.cons (o := { dst := none, op := .store 33 (.tmp 8) (.tmp 29), type := _, pos := _, after := _, guard := _ }) rfl (fun K hK => ?_) AllReadyH.nil
              have c80 : W9.cell? ⟨gf, 0, none⟩ = some (.int .i64 0) := IF.out.cell' rfl
              have c81 : W9.cell? ⟨gf, 1, none⟩ = some (.int .i64 0) := IF.out.cell' rfl
              have c82 : W9.cell? ⟨gf, 2, none⟩ = some (.int .i64 0) := IF.out.cell' rfl
              have f80 := IF.out.frozen 0
              have f81 := IF.out.frozen 1
              have f82 := IF.out.frozen 2
              go_simp
              have hb2 := ((HB.out.setCell (p := ⟨gf, 0, none⟩) nf (.int .i64 P0)).setCell (p := ⟨gf, 1, none⟩) nf (.int .i64 P1)).setCell (p := ⟨gf, 2, none⟩) nf (.int .i64 (m' : Int))
              have if2 := ((IF.out.set 0 (.int .i64 P0) rfl).set 1 (.int .i64 P1) rfl).set 2 (.int .i64 (m' : Int)) rfl
              refine hK.out _ _ (HK.out _ hb2) (fun _ => ?_)
              clear hK K
              try simp only [Act.put, List.setIfInBounds_toArray, List.set_cons_zero, List.set_cons_succ]
              refine wpAnyH_done (by kernel_rfl) ?_ _
              go_wp2_with fail
              go_meet
              exact ⟨gf, rfl, if2, hb2⟩
            refine AllReadyH.cons (o := { dst := some 8, op := .alloc 33, type := _, pos := _, after := _, guard := _ }) rfl (fun K hK => ?_) AllReadyH.nil
            go_simp
            refine hK.out _ _ (HK.out _ (HB.out.alloc HB.out.size (.cells #[.int .i64 0, .int .i64 0, .int .i64 0] 33))) (fun _ => ?_)
            clear hK K
            try simp only [Act.put, List.setIfInBounds_toArray, List.set_cons_zero, List.set_cons_succ]
            have HB2 := Lib.hid (HB.out.alloc HB.out.size (.cells #[.int .i64 0, .int .i64 0, .int .i64 0] 33))
            have sb := HB.out.size
            have OA2 := Lib.hid (OA.out.alloc (.cells #[.int .i64 0, .int .i64 0, .int .i64 0] 33))
            have IC2 := Lib.hid (IC.out.alloc (.cells #[.int .i64 0, .int .i64 0, .int .i64 0] 33))
            have lc := IC.out.lt
            have IF2 := Lib.hid (Is.new W3 33 #[.int .i64 0, .int .i64 0, .int .i64 0] rfl)
            have nf : w3.heap.size ≤ W3.heap.size := sb
            generalize W3.alloc (.cells #[.int .i64 0, .int .i64 0, .int .i64 0] 33) = W11 at *
            clear HB sb OA IC lc
            generalize W3.heap.size = gf at *
            have HB := HB2
            clear HB2
            have OA := OA2
            clear OA2
            have IC := IC2
            clear IC2
            have IF := IF2
            clear IF2
            refine wpAnyH_ready (rs := [5]) (by kernel_rfl) (by simp) ?_
            refine AllReadyH.cons (o := { dst := some 27, op := .call { callee := .builtin .append, args := #[.tmp 24, .tmp 26], argTypes := #[22, 22] }, type := _, pos := _, after := _, guard := _ }) rfl (fun K hK => ?_) AllReadyH.nil
            refine Law.step_append_seq _ w3.heap.size 22 rfl (.tmp 24) (.tmp 26) rfl HE.out (.slice A4 zs.length c4) zs.length (flatS zs) (by simp [Act.eval]) (by exact OA.out) gc (gc + 1) (some ⟨gc, 0, none⟩) 1 1 (cellsS (x0, x1, x2, x3)) (by simp [Act.eval]) rfl (Is.seqS IC.out) (four_one _) (by unfold maxLen; omega) (by omega) HB.out.size ?_
            intro v12 W12 own grow
            have hb2 : Below w3.heap.size w3 W12 := HB.out.grown grow HB.out.size (fun g hg => (OA.out.lt g hg).1)
            refine hK.out _ _ (HK.out _ hb2) (fun _ => ?_)
            clear hK K
            try simp only [Act.put, List.setIfInBounds_toArray, List.set_cons_zero, List.set_cons_succ]
            have OA2 : Hid (W12.ownsRow w3.heap.size 30 4 v12 (zs.length + 1) (flatS (zs ++ [(x0, x1, x2, x3)]))) := by show World.ownsRow _ _ _ _ _ _ _; rw [flatS_snoc]; exact own
            have HB2 := Lib.hid hb2
            have IF2 : Hid (Is W12 gf 33 #[.int .i64 0, .int .i64 0, .int .i64 0]) := (grow.block gf IF.out.lt (fun h => own_ne OA.out IF.out (by decide) h.symm)).trans IF.out
            obtain ⟨A7, c7, rfl, _⟩ := own_shape OA2.out
            clear own grow hb2 HB OA IC IF
            have HB := HB2
            have OA := OA2
            clear HB2 OA2
            have IF := IF2
            clear IF2
            refine wpAnyH_ready (rs := [7]) (by kernel_rfl) (by simp) ?_
            refine AllReadyH.cons (o := { dst := some 29, op := .call { callee := .value (.func 13), args := #[.tmp 27, .tmp 28], argTypes := #[22, 23] }, type := _, pos := _, after := _, guard := _ }) rfl (fun K hK => ?_) AllReadyH.nil
            go_simp
            refine Calls.mono (HO.out A7 c7 W12 OA.out HB.out) ?_
            rintro e W13 ⟨rfl, hb1, hb2⟩
            go_wp2_with fail
            refine hK.out _ _ (HK.out _ hb2) (fun _ => ?_)
            clear hK K
            try simp only [Act.put, List.setIfInBounds_toArray, List.set_cons_zero, List.set_cons_succ]
            have HB2 := Lib.hid hb2
            have OA2 := Lib.hid (own_below OA.out hb1)
            have IF2 := Lib.hid (IF.out.below hb1 IF.out.lt)
            clear hb1 hb2 HB OA IF
            have HB := HB2
            have OA := OA2
            clear HB2 OA2
            have IF := IF2
            clear IF2
            refine wpAnyH_ready (rs := [9]) (by kernel_rfl) (by simp) ?_
            refine AllReadyH.cons (o := { dst := none, op := .store 33 (.tmp 8) (.tmp 29), type := _, pos := _, after := _, guard := _ }) rfl (fun K hK => ?_) AllReadyH.nil
            have c80 : W13.cell? ⟨gf, 0, none⟩ = some (.int .i64 0) := IF.out.cell' rfl
            have c81 : W13.cell? ⟨gf, 1, none⟩ = some (.int .i64 0) := IF.out.cell' rfl
            have c82 : W13.cell? ⟨gf, 2, none⟩ = some (.int .i64 0) := IF.out.cell' rfl
            have f80 := IF.out.frozen 0
            have f81 := IF.out.frozen 1
            have f82 := IF.out.frozen 2
            go_simp
            have hb2 := ((HB.out.setCell (p := ⟨gf, 0, none⟩) nf (.int .i64 P0)).setCell (p := ⟨gf, 1, none⟩) nf (.int .i64 P1)).setCell (p := ⟨gf, 2, none⟩) nf (.int .i64 (m' : Int))
            have if2 := ((IF.out.set 0 (.int .i64 P0) rfl).set 1 (.int .i64 P1) rfl).set 2 (.int .i64 (m' : Int)) rfl
            refine hK.out _ _ (HK.out _ hb2) (fun _ => ?_)
            clear hK K
            try simp only [Act.put, List.setIfInBounds_toArray, List.set_cons_zero, List.set_cons_succ]
            refine wpAnyH_done (by kernel_rfl) ?_ _
            go_wp2_with fail
            go_meet
            exact ⟨gf, rfl, if2, hb2⟩
          refine AllReadyH.cons (o := { dst := some 8, op := .alloc 33, type := _, pos := _, after := _, guard := _ }) rfl (fun K hK => ?_) AllReadyH.nil
          go_simp
          refine hK.out _ _ (HK.out _ (HB.out.alloc HB.out.size (.cells #[.int .i64 0, .int .i64 0, .int .i64 0] 33))) (fun _ => ?_)
          clear hK K
          try simp only [Act.put, List.setIfInBounds_toArray, List.set_cons_zero, List.set_cons_succ]
          have HB2 := Lib.hid (HB.out.alloc HB.out.size (.cells #[.int .i64 0, .int .i64 0, .int .i64 0] 33))
          have sb := HB.out.size
          have OA2 := Lib.hid (OA.out.alloc (.cells #[.int .i64 0, .int .i64 0, .int .i64 0] 33))
          have IF2 := Lib.hid (Is.new W2 33 #[.int .i64 0, .int .i64 0, .int .i64 0] rfl)
          have nf : w3.heap.size ≤ W2.heap.size := sb
          generalize W2.alloc (.cells #[.int .i64 0, .int .i64 0, .int .i64 0] 33) = W15 at *
          clear HB sb OA
          generalize W2.heap.size = gf at *
          have HB := HB2
          clear HB2
          have OA := OA2
          clear OA2
          have IF := IF2
          clear IF2
          refine wpAnyH_ready (rs := [4]) (by kernel_rfl) (by simp) ?_
          refine AllReadyH.cons (o := { dst := some 26, op := .buildSlice 22 1 #[(0, .tmp 25)], type := _, pos := _, after := _, guard := _ }) rfl (fun K hK => ?_) AllReadyH.nil
          go_simp
          refine hK.out _ _ (HK.out _ (HB.out.alloc HB.out.size (.cells #[.int .i64 x0, .int .i64 x1, .int .i64 x2, .int .u64 x3] 30))) (fun _ => ?_)
          clear hK K
          try simp only [Act.put, List.setIfInBounds_toArray, List.set_cons_zero, List.set_cons_succ]
          have HB2 := Lib.hid (HB.out.alloc HB.out.size (.cells #[.int .i64 x0, .int .i64 x1, .int .i64 x2, .int .u64 x3] 30))
          have sb := HB.out.size
          have OA2 := Lib.hid (OA.out.alloc (.cells #[.int .i64 x0, .int .i64 x1, .int .i64 x2, .int .u64 x3] 30))
          have IF2 := Lib.hid (IF.out.alloc (.cells #[.int .i64 x0, .int .i64 x1, .int .i64 x2, .int .u64 x3] 30))
          have lf := IF.out.lt
          have IC2 := Lib.hid (Is.new W15 30 #[.int .i64 x0, .int .i64 x1, .int .i64 x2, .int .u64 x3] rfl)
          generalize W15.alloc (.cells #[.int .i64 x0, .int .i64 x1, .int .i64 x2, .int .u64 x3] 30) = W16 at *
          clear HB sb OA IF lf
          generalize W15.heap.size = gc at *
          have HB := HB2
          clear HB2
          have OA := OA2
          clear OA2
          have IC := IC2
          clear IC2
          have IF := IF2
          clear IF2
          refine wpAnyH_ready (rs := [5]) (by kernel_rfl) (by simp) ?_
          refine AllReadyH.cons (o := { dst := some 27, op := .call { callee := .builtin .append, args := #[.tmp 24, .tmp 26], argTypes := #[22, 22] }, type := _, pos := _, after := _, guard := _ }) rfl (fun K hK => ?_) AllReadyH.nil
          refine Law.step_append_seq _ w3.heap.size 22 rfl (.tmp 24) (.tmp 26) rfl HE.out (.slice A4 zs.length c4) zs.length (flatS zs) (by simp [Act.eval]) (by exact OA.out) gc (gc + 1) (some ⟨gc, 0, none⟩) 1 1 (cellsS (x0, x1, x2, x3)) (by simp [Act.eval]) rfl (Is.seqS IC.out) (four_one _) (by unfold maxLen; omega) (by omega) HB.out.size ?_
          intro v17 W17 own grow
          have hb2 : Below w3.heap.size w3 W17 := HB.out.grown grow HB.out.size (fun g hg => (OA.out.lt g hg).1)
          refine hK.out _ _ (HK.out _ hb2) (fun _ => ?_)
          clear hK K
          try simp only [Act.put, List.setIfInBounds_toArray, List.set_cons_zero, List.set_cons_succ]
          have OA2 : Hid (W17.ownsRow w3.heap.size 30 4 v17 (zs.length + 1) (flatS (zs ++ [(x0, x1, x2, x3)]))) := by show World.ownsRow _ _ _ _ _ _ _; rw [flatS_snoc]; exact own
          have HB2 := Lib.hid hb2
          have IF2 : Hid (Is W17 gf 33 #[.int .i64 0, .int .i64 0, .int .i64 0]) := (grow.block gf IF.out.lt (fun h => own_ne OA.out IF.out (by decide) h.symm)).trans IF.out
          obtain ⟨A7, c7, rfl, _⟩ := own_shape OA2.out
          clear own grow hb2 HB OA IC IF
          have HB := HB2
          have OA := OA2
          clear HB2 OA2
          have IF := IF2
          clear IF2
          refine wpAnyH_ready (rs := [7]) (by kernel_rfl) (by simp) ?_
          refine AllReadyH.cons (o := { dst := some 29, op := .call { callee := .value (.func 13), args := #[.tmp 27, .tmp 28], argTypes := #[22, 23] }, type := _, pos := _, after := _, guard := _ }) rfl (fun K hK => ?_) AllReadyH.nil
          go_simp
          refine Calls.mono (HO.out A7 c7 W17 OA.out HB.out) ?_
          rintro e W18 ⟨rfl, hb1, hb2⟩
          go_wp2_with fail
          refine hK.out _ _ (HK.out _ hb2) (fun _ => ?_)
          clear hK K
          try simp only [Act.put, List.setIfInBounds_toArray, List.set_cons_zero, List.set_cons_succ]
          have HB2 := Lib.hid hb2
          have OA2 := Lib.hid (own_below OA.out hb1)
          have IF2 := Lib.hid (IF.out.below hb1 IF.out.lt)
          clear hb1 hb2 HB OA IF
          have HB := HB2
          have OA := OA2
          clear HB2 OA2
          have IF := IF2
          clear IF2
          refine wpAnyH_ready (rs := [9]) (by kernel_rfl) (by simp) ?_
          refine AllReadyH.cons (o := { dst := none, op := .store 33 (.tmp 8) (.tmp 29), type := _, pos := _, after := _, guard := _ }) rfl (fun K hK => ?_) AllReadyH.nil
          have c80 : W18.cell? ⟨gf, 0, none⟩ = some (.int .i64 0) := IF.out.cell' rfl
          have c81 : W18.cell? ⟨gf, 1, none⟩ = some (.int .i64 0) := IF.out.cell' rfl
          have c82 : W18.cell? ⟨gf, 2, none⟩ = some (.int .i64 0) := IF.out.cell' rfl
          have f80 := IF.out.frozen 0
          have f81 := IF.out.frozen 1
          have f82 := IF.out.frozen 2
          go_simp
          have hb2 := ((HB.out.setCell (p := ⟨gf, 0, none⟩) nf (.int .i64 P0)).setCell (p := ⟨gf, 1, none⟩) nf (.int .i64 P1)).setCell (p := ⟨gf, 2, none⟩) nf (.int .i64 (m' : Int))
          have if2 := ((IF.out.set 0 (.int .i64 P0) rfl).set 1 (.int .i64 P1) rfl).set 2 (.int .i64 (m' : Int)) rfl
          refine hK.out _ _ (HK.out _ hb2) (fun _ => ?_)
          clear hK K
          try simp only [Act.put, List.setIfInBounds_toArray, List.set_cons_zero, List.set_cons_succ]
          refine wpAnyH_done (by kernel_rfl) ?_ _
          go_wp2_with fail
          go_meet
          exact ⟨gf, rfl, if2, hb2⟩
        refine AllReadyH.cons (o := { dst := some 26, op := .buildSlice 22 1 #[(0, .tmp 25)], type := _, pos := _, after := _, guard := _ }) rfl (fun K hK => ?_) ?_
        · go_simp
          refine hK.out _ _ (HK.out _ (HB.out.alloc HB.out.size (.cells #[.int .i64 x0, .int .i64 x1, .int .i64 x2, .int .u64 x3] 30))) (fun _ => ?_)
          clear hK K
          try simp only [Act.put, List.setIfInBounds_toArray, List.set_cons_zero, List.set_cons_succ]
          have HB2 := Lib.hid (HB.out.alloc HB.out.size (.cells #[.int .i64 x0, .int .i64 x1, .int .i64 x2, .int .u64 x3] 30))
          have sb := HB.out.size
          have OA2 := Lib.hid (OA.out.alloc (.cells #[.int .i64 x0, .int .i64 x1, .int .i64 x2, .int .u64 x3] 30))
          have IC2 := Lib.hid (Is.new W1 30 #[.int .i64 x0, .int .i64 x1, .int .i64 x2, .int .u64 x3] rfl)
          have nac : ga ≠ W1.heap.size := by omega
          have la2 : ga < (W1.alloc (.cells #[.int .i64 x0, .int .i64 x1, .int .i64 x2, .int .u64 x3] 30)).heap.size := by simp; omega
          generalize W1.alloc (.cells #[.int .i64 x0, .int .i64 x1, .int .i64 x2, .int .u64 x3] 30) = W20 at *
          clear HB sb OA la
          generalize W1.heap.size = gc at *
          have HB := HB2
          clear HB2
          have OA := OA2
          clear OA2
          have IC := IC2
          clear IC2
          have la := la2
          clear la2
          refine wpAnyH_ready (rs := [2, 8]) (by kernel_rfl) (by simp) ?_
          refine AllReadyH.cons (o := { dst := some 24, op := .call { callee := .builtin .append, args := #[.tmp 22, .tmp 23], argTypes := #[22, 22] }, type := _, pos := _, after := _, guard := _ }) rfl (fun K hK => ?_) ?_
          · refine Law.step_append_seq _ w3.heap.size 22 rfl (.tmp 22) (.tmp 23) rfl HE.out (.slice (some ⟨ga, 0, none⟩) 0 0) 0 [] (by simp [Act.eval]) (by exact OA.out) 0 w3.heap.size A zs.length c (flatS zs) (by simp [Act.eval]) (flatS_length zs) (HSQ.out.below HB.out) (flatS_one _) (by unfold maxLen; omega) (by omega) HB.out.size ?_
            intro v21 W21 own grow
            have hb2 : Below w3.heap.size w3 W21 := HB.out.grown grow HB.out.size (fun g hg => by have h9 : ga = g := Option.some.inj hg; omega)
            refine hK.out _ _ (HK.out _ hb2) (fun _ => ?_)
            clear hK K
            try simp only [Act.put, List.setIfInBounds_toArray, List.set_cons_zero, List.set_cons_succ]
            have OA2 : Hid (W21.ownsRow w3.heap.size 30 4 v21 zs.length (flatS zs)) := by show World.ownsRow _ _ _ _ _ _ _; simpa using own
            have HB2 := Lib.hid hb2
            have IC2 : Hid (Is W21 gc 30 #[.int .i64 x0, .int .i64 x1, .int .i64 x2, .int .u64 x3]) := (grow.block gc IC.out.lt (fun h => nac (Option.some.inj h).symm)).trans IC.out
            obtain ⟨A4, c4, rfl, _⟩ := own_shape OA2.out
            clear own grow hb2 HB OA la IC nac
            have HB := HB2
            have OA := OA2
            clear HB2 OA2
            have IC := IC2
            clear IC2
            refine wpAnyH_ready (rs := [5, 8]) (by kernel_rfl) (by simp) ?_
            refine AllReadyH.cons (o := { dst := some 27, op := .call { callee := .builtin .append, args := #[.tmp 24, .tmp 26], argTypes := #[22, 22] }, type := _, pos := _, after := _, guard := _ }) rfl (fun K hK => ?_) ?_
            · refine Law.step_append_seq _ w3.heap.size 22 rfl (.tmp 24) (.tmp 26) rfl HE.out (.slice A4 zs.length c4) zs.length (flatS zs) (by simp [Act.eval]) (by exact OA.out) gc (gc + 1) (some ⟨gc, 0, none⟩) 1 1 (cellsS (x0, x1, x2, x3)) (by simp [Act.eval]) rfl (Is.seqS IC.out) (four_one _) (by unfold maxLen; omega) (by omega) HB.out.size ?_
              intro v22 W22 own grow
              have hb2 : Below w3.heap.size w3 W22 := HB.out.grown grow HB.out.size (fun g hg => (OA.out.lt g hg).1)
              refine hK.out _ _ (HK.out _ hb2) (fun _ => ?_)
              clear hK K
              try simp only [Act.put, List.setIfInBounds_toArray, List.set_cons_zero, List.set_cons_succ]
              have OA2 : Hid (W22.ownsRow w3.heap.size 30 4 v22 (zs.length + 1) (flatS (zs ++ [(x0, x1, x2, x3)]))) := by show World.ownsRow _ _ _ _ _ _ _; rw [flatS_snoc]; exact own
              have HB2 := Lib.hid hb2
              obtain ⟨A7, c7, rfl, _⟩ := own_shape OA2.out
              clear own grow hb2 HB OA IC
              have HB := HB2
              have OA := OA2
              clear HB2 OA2
              refine wpAnyH_ready (rs := [7, 8]) (by kernel_rfl) (by simp) ?_
              refine AllReadyH.cons (o := { dst := some 29, op := .call { callee := .value (.func 13), args := #[.tmp 27, .tmp 28], argTypes := #[22, 23] }, type := _, pos := _, after := _, guard := _ }) rfl (fun K hK => ?_) ?_
              · go_simp
                refine Calls.mono (HO.out A7 c7 W22 OA.out HB.out) ?_
                rintro e W23 ⟨rfl, hb1, hb2⟩
                go_wp2_with fail
                refine hK.out _ _ (HK.out _ hb2) (fun _ => ?_)
                clear hK K
                try simp only [Act.put, List.setIfInBounds_toArray, List.set_cons_zero, List.set_cons_succ]
                have HB2 := Lib.hid hb2
                have OA2 := Lib.hid (own_below OA.out hb1)
                clear hb1 hb2 HB OA
                have HB := HB2
                have OA := OA2
                clear HB2 OA2
                refine wpAnyH_ready (rs := [8]) (by kernel_rfl) (by simp) ?_
                refine AllReadyH.cons (o := { dst := some 8, op := .alloc 33, type := _, pos := _, after := _, guard := _ }) rfl (fun K hK => ?_) AllReadyH.nil
                go_simp
                refine hK.out _ _ (HK.out _ (HB.out.alloc HB.out.size (.cells #[.int .i64 0, .int .i64 0, .int .i64 0] 33))) (fun _ => ?_)
                clear hK K
                try simp only [Act.put, List.setIfInBounds_toArray, List.set_cons_zero, List.set_cons_succ]
                have HB2 := Lib.hid (HB.out.alloc HB.out.size (.cells #[.int .i64 0, .int .i64 0, .int .i64 0] 33))
                have sb := HB.out.size
                have OA2 := Lib.hid (OA.out.alloc (.cells #[.int .i64 0, .int .i64 0, .int .i64 0] 33))
                have IF2 := Lib.hid (Is.new W23 33 #[.int .i64 0, .int .i64 0, .int .i64 0] rfl)
                have nf : w3.heap.size ≤ W23.heap.size := sb
                generalize W23.alloc (.cells #[.int .i64 0, .int .i64 0, .int .i64 0] 33) = W24 at *
                clear HB sb OA
                generalize W23.heap.size = gf at *
                have HB := HB2
                clear HB2
                have OA := OA2
                clear OA2
                have IF := IF2
                clear IF2
                refine wpAnyH_ready (rs := [9]) (by kernel_rfl) (by simp) ?_
                refine AllReadyH.cons (o := { dst := none, op := .store 33 (.tmp 8) (.tmp 29), type := _, pos := _, after := _, guard := _ }) rfl (fun K hK => ?_) AllReadyH.nil
                have c80 : W24.cell? ⟨gf, 0, none⟩ = some (.int .i64 0) := IF.out.cell' rfl
                have c81 : W24.cell? ⟨gf, 1, none⟩ = some (.int .i64 0) := IF.out.cell' rfl
                have c82 : W24.cell? ⟨gf, 2, none⟩ = some (.int .i64 0) := IF.out.cell' rfl
                have f80 := IF.out.frozen 0
                have f81 := IF.out.frozen 1
                have f82 := IF.out.frozen 2
                go_simp
                have hb2 := ((HB.out.setCell (p := ⟨gf, 0, none⟩) nf (.int .i64 P0)).setCell (p := ⟨gf, 1, none⟩) nf (.int .i64 P1)).setCell (p := ⟨gf, 2, none⟩) nf (.int .i64 (m' : Int))
                have if2 := ((IF.out.set 0 (.int .i64 P0) rfl).set 1 (.int .i64 P1) rfl).set 2 (.int .i64 (m' : Int)) rfl
                refine hK.out _ _ (HK.out _ hb2) (fun _ => ?_)
                clear hK K
                try simp only [Act.put, List.setIfInBounds_toArray, List.set_cons_zero, List.set_cons_succ]
                refine wpAnyH_done (by kernel_rfl) ?_ _
                go_wp2_with fail
                go_meet
                exact ⟨gf, rfl, if2, hb2⟩
              refine AllReadyH.cons (o := { dst := some 8, op := .alloc 33, type := _, pos := _, after := _, guard := _ }) rfl (fun K hK => ?_) AllReadyH.nil
              go_simp
              refine hK.out _ _ (HK.out _ (HB.out.alloc HB.out.size (.cells #[.int .i64 0, .int .i64 0, .int .i64 0] 33))) (fun _ => ?_)
              clear hK K
              try simp only [Act.put, List.setIfInBounds_toArray, List.set_cons_zero, List.set_cons_succ]
              have HB2 := Lib.hid (HB.out.alloc HB.out.size (.cells #[.int .i64 0, .int .i64 0, .int .i64 0] 33))
              have sb := HB.out.size
              have OA2 := Lib.hid (OA.out.alloc (.cells #[.int .i64 0, .int .i64 0, .int .i64 0] 33))
              have IF2 := Lib.hid (Is.new W22 33 #[.int .i64 0, .int .i64 0, .int .i64 0] rfl)
              have nf : w3.heap.size ≤ W22.heap.size := sb
              generalize W22.alloc (.cells #[.int .i64 0, .int .i64 0, .int .i64 0] 33) = W26 at *
              clear HB sb OA
              generalize W22.heap.size = gf at *
              have HB := HB2
              clear HB2
              have OA := OA2
              clear OA2
              have IF := IF2
              clear IF2
              refine wpAnyH_ready (rs := [7]) (by kernel_rfl) (by simp) ?_
              refine AllReadyH.cons (o := { dst := some 29, op := .call { callee := .value (.func 13), args := #[.tmp 27, .tmp 28], argTypes := #[22, 23] }, type := _, pos := _, after := _, guard := _ }) rfl (fun K hK => ?_) AllReadyH.nil
              go_simp
              refine Calls.mono (HO.out A7 c7 W26 OA.out HB.out) ?_
              rintro e W27 ⟨rfl, hb1, hb2⟩
              go_wp2_with fail
              refine hK.out _ _ (HK.out _ hb2) (fun _ => ?_)
              clear hK K
              try simp only [Act.put, List.setIfInBounds_toArray, List.set_cons_zero, List.set_cons_succ]
              have HB2 := Lib.hid hb2
              have OA2 := Lib.hid (own_below OA.out hb1)
              have IF2 := Lib.hid (IF.out.below hb1 IF.out.lt)
              clear hb1 hb2 HB OA IF
              have HB := HB2
              have OA := OA2
              clear HB2 OA2
              have IF := IF2
              clear IF2
              refine wpAnyH_ready (rs := [9]) (by kernel_rfl) (by simp) ?_
              refine AllReadyH.cons (o := { dst := none, op := .store 33 (.tmp 8) (.tmp 29), type := _, pos := _, after := _, guard := _ }) rfl (fun K hK => ?_) AllReadyH.nil
              have c80 : W27.cell? ⟨gf, 0, none⟩ = some (.int .i64 0) := IF.out.cell' rfl
              have c81 : W27.cell? ⟨gf, 1, none⟩ = some (.int .i64 0) := IF.out.cell' rfl
              have c82 : W27.cell? ⟨gf, 2, none⟩ = some (.int .i64 0) := IF.out.cell' rfl
              have f80 := IF.out.frozen 0
              have f81 := IF.out.frozen 1
              have f82 := IF.out.frozen 2
              go_simp
              have hb2 := ((HB.out.setCell (p := ⟨gf, 0, none⟩) nf (.int .i64 P0)).setCell (p := ⟨gf, 1, none⟩) nf (.int .i64 P1)).setCell (p := ⟨gf, 2, none⟩) nf (.int .i64 (m' : Int))
              have if2 := ((IF.out.set 0 (.int .i64 P0) rfl).set 1 (.int .i64 P1) rfl).set 2 (.int .i64 (m' : Int)) rfl
              refine hK.out _ _ (HK.out _ hb2) (fun _ => ?_)
              clear hK K
              try simp only [Act.put, List.setIfInBounds_toArray, List.set_cons_zero, List.set_cons_succ]
              refine wpAnyH_done (by kernel_rfl) ?_ _
              go_wp2_with fail
              go_meet
              exact ⟨gf, rfl, if2, hb2⟩
            refine AllReadyH.cons (o := { dst := some 8, op := .alloc 33, type := _, pos := _, after := _, guard := _ }) rfl (fun K hK => ?_) AllReadyH.nil
            go_simp
            refine hK.out _ _ (HK.out _ (HB.out.alloc HB.out.size (.cells #[.int .i64 0, .int .i64 0, .int .i64 0] 33))) (fun _ => ?_)
            clear hK K
            try simp only [Act.put, List.setIfInBounds_toArray, List.set_cons_zero, List.set_cons_succ]
            have HB2 := Lib.hid (HB.out.alloc HB.out.size (.cells #[.int .i64 0, .int .i64 0, .int .i64 0] 33))
            have sb := HB.out.size
            have OA2 := Lib.hid (OA.out.alloc (.cells #[.int .i64 0, .int .i64 0, .int .i64 0] 33))
            have IC2 := Lib.hid (IC.out.alloc (.cells #[.int .i64 0, .int .i64 0, .int .i64 0] 33))
            have lc := IC.out.lt
            have IF2 := Lib.hid (Is.new W21 33 #[.int .i64 0, .int .i64 0, .int .i64 0] rfl)
            have nf : w3.heap.size ≤ W21.heap.size := sb
            generalize W21.alloc (.cells #[.int .i64 0, .int .i64 0, .int .i64 0] 33) = W29 at *
            clear HB sb OA IC lc
            generalize W21.heap.size = gf at *
            have HB := HB2
            clear HB2
            have OA := OA2
            clear OA2
            have IC := IC2
            clear IC2
            have IF := IF2
            clear IF2
            refine wpAnyH_ready (rs := [5]) (by kernel_rfl) (by simp) ?_
            refine AllReadyH.cons (o := { dst := some 27, op := .call { callee := .builtin .append, args := #[.tmp 24, .tmp 26], argTypes := #[22, 22] }, type := _, pos := _, after := _, guard := _ }) rfl (fun K hK => ?_) AllReadyH.nil
            refine Law.step_append_seq _ w3.heap.size 22 rfl (.tmp 24) (.tmp 26) rfl HE.out (.slice A4 zs.length c4) zs.length (flatS zs) (by simp [Act.eval]) (by exact OA.out) gc (gc + 1) (some ⟨gc, 0, none⟩) 1 1 (cellsS (x0, x1, x2, x3)) (by simp [Act.eval]) rfl (Is.seqS IC.out) (four_one _) (by unfold maxLen; omega) (by omega) HB.out.size ?_
            intro v30 W30 own grow
            have hb2 : Below w3.heap.size w3 W30 := HB.out.grown grow HB.out.size (fun g hg => (OA.out.lt g hg).1)
            refine hK.out _ _ (HK.out _ hb2) (fun _ => ?_)
            clear hK K
            try simp only [Act.put, List.setIfInBounds_toArray, List.set_cons_zero, List.set_cons_succ]
            have OA2 : Hid (W30.ownsRow w3.heap.size 30 4 v30 (zs.length + 1) (flatS (zs ++ [(x0, x1, x2, x3)]))) := by show World.ownsRow _ _ _ _ _ _ _; rw [flatS_snoc]; exact own
            have HB2 := Lib.hid hb2
            have IF2 : Hid (Is W30 gf 33 #[.int .i64 0, .int .i64 0, .int .i64 0]) := (grow.block gf IF.out.lt (fun h => own_ne OA.out IF.out (by decide) h.symm)).trans IF.out
            obtain ⟨A7, c7, rfl, _⟩ := own_shape OA2.out
            clear own grow hb2 HB OA IC IF
            have HB := HB2
            have OA := OA2
            clear HB2 OA2
            have IF := IF2
            clear IF2
            refine wpAnyH_ready (rs := [7]) (by kernel_rfl) (by simp) ?_
            refine AllReadyH.cons (o := { dst := some 29, op := .call { callee := .value (.func 13), args := #[.tmp 27, .tmp 28], argTypes := #[22, 23] }, type := _, pos := _, after := _, guard := _ }) rfl (fun K hK => ?_) AllReadyH.nil
            go_simp
            refine Calls.mono (HO.out A7 c7 W30 OA.out HB.out) ?_
            rintro e W31 ⟨rfl, hb1, hb2⟩
            go_wp2_with fail
            refine hK.out _ _ (HK.out _ hb2) (fun _ => ?_)
            clear hK K
            try simp only [Act.put, List.setIfInBounds_toArray, List.set_cons_zero, List.set_cons_succ]
            have HB2 := Lib.hid hb2
            have OA2 := Lib.hid (own_below OA.out hb1)
            have IF2 := Lib.hid (IF.out.below hb1 IF.out.lt)
            clear hb1 hb2 HB OA IF
            have HB := HB2
            have OA := OA2
            clear HB2 OA2
            have IF := IF2
            clear IF2
            refine wpAnyH_ready (rs := [9]) (by kernel_rfl) (by simp) ?_
            refine AllReadyH.cons (o := { dst := none, op := .store 33 (.tmp 8) (.tmp 29), type := _, pos := _, after := _, guard := _ }) rfl (fun K hK => ?_) AllReadyH.nil
            have c80 : W31.cell? ⟨gf, 0, none⟩ = some (.int .i64 0) := IF.out.cell' rfl
            have c81 : W31.cell? ⟨gf, 1, none⟩ = some (.int .i64 0) := IF.out.cell' rfl
            have c82 : W31.cell? ⟨gf, 2, none⟩ = some (.int .i64 0) := IF.out.cell' rfl
            have f80 := IF.out.frozen 0
            have f81 := IF.out.frozen 1
            have f82 := IF.out.frozen 2
            go_simp
            have hb2 := ((HB.out.setCell (p := ⟨gf, 0, none⟩) nf (.int .i64 P0)).setCell (p := ⟨gf, 1, none⟩) nf (.int .i64 P1)).setCell (p := ⟨gf, 2, none⟩) nf (.int .i64 (m' : Int))
            have if2 := ((IF.out.set 0 (.int .i64 P0) rfl).set 1 (.int .i64 P1) rfl).set 2 (.int .i64 (m' : Int)) rfl
            refine hK.out _ _ (HK.out _ hb2) (fun _ => ?_)
            clear hK K
            try simp only [Act.put, List.setIfInBounds_toArray, List.set_cons_zero, List.set_cons_succ]
            refine wpAnyH_done (by kernel_rfl) ?_ _
            go_wp2_with fail
            go_meet
            exact ⟨gf, rfl, if2, hb2⟩
          refine AllReadyH.cons (o := { dst := some 8, op := .alloc 33, type := _, pos := _, after := _, guard := _ }) rfl (fun K hK => ?_) AllReadyH.nil
          go_simp
          refine hK.out _ _ (HK.out _ (HB.out.alloc HB.out.size (.cells #[.int .i64 0, .int .i64 0, .int .i64 0] 33))) (fun _ => ?_)
          clear hK K
          try simp only [Act.put, List.setIfInBounds_toArray, List.set_cons_zero, List.set_cons_succ]
          have HB2 := Lib.hid (HB.out.alloc HB.out.size (.cells #[.int .i64 0, .int .i64 0, .int .i64 0] 33))
          have sb := HB.out.size
          have OA2 := Lib.hid (OA.out.alloc (.cells #[.int .i64 0, .int .i64 0, .int .i64 0] 33))
          have IC2 := Lib.hid (IC.out.alloc (.cells #[.int .i64 0, .int .i64 0, .int .i64 0] 33))
          have lc := IC.out.lt
          have IF2 := Lib.hid (Is.new W20 33 #[.int .i64 0, .int .i64 0, .int .i64 0] rfl)
          have nf : w3.heap.size ≤ W20.heap.size := sb
          have naf : ga ≠ W20.heap.size := by omega
          have la2 : ga < (W20.alloc (.cells #[.int .i64 0, .int .i64 0, .int .i64 0] 33)).heap.size := by simp; omega
          generalize W20.alloc (.cells #[.int .i64 0, .int .i64 0, .int .i64 0] 33) = W33 at *
          clear HB sb OA IC lc la
          generalize W20.heap.size = gf at *
          have HB := HB2
          clear HB2
          have OA := OA2
          clear OA2
          have IC := IC2
          clear IC2
          have IF := IF2
          clear IF2
          have la := la2
          clear la2
          refine wpAnyH_ready (rs := [2]) (by kernel_rfl) (by simp) ?_
          refine AllReadyH.cons (o := { dst := some 24, op := .call { callee := .builtin .append, args := #[.tmp 22, .tmp 23], argTypes := #[22, 22] }, type := _, pos := _, after := _, guard := _ }) rfl (fun K hK => ?_) AllReadyH.nil
          refine Law.step_append_seq _ w3.heap.size 22 rfl (.tmp 22) (.tmp 23) rfl HE.out (.slice (some ⟨ga, 0, none⟩) 0 0) 0 [] (by simp [Act.eval]) (by exact OA.out) 0 w3.heap.size A zs.length c (flatS zs) (by simp [Act.eval]) (flatS_length zs) (HSQ.out.below HB.out) (flatS_one _) (by unfold maxLen; omega) (by omega) HB.out.size ?_
          intro v34 W34 own grow
          have hb2 : Below w3.heap.size w3 W34 := HB.out.grown grow HB.out.size (fun g hg => by have h9 : ga = g := Option.some.inj hg; omega)
          refine hK.out _ _ (HK.out _ hb2) (fun _ => ?_)
          clear hK K
          try simp only [Act.put, List.setIfInBounds_toArray, List.set_cons_zero, List.set_cons_succ]
          have OA2 : Hid (W34.ownsRow w3.heap.size 30 4 v34 zs.length (flatS zs)) := by show World.ownsRow _ _ _ _ _ _ _; simpa using own
          have HB2 := Lib.hid hb2
          have IC2 : Hid (Is W34 gc 30 #[.int .i64 x0, .int .i64 x1, .int .i64 x2, .int .u64 x3]) := (grow.block gc IC.out.lt (fun h => nac (Option.some.inj h).symm)).trans IC.out
          have IF2 : Hid (Is W34 gf 33 #[.int .i64 0, .int .i64 0, .int .i64 0]) := (grow.block gf IF.out.lt (fun h => naf (Option.some.inj h).symm)).trans IF.out
          obtain ⟨A4, c4, rfl, _⟩ := own_shape OA2.out
          clear own grow hb2 HB OA la IC nac IF naf
          have HB := HB2
          have OA := OA2
          clear HB2 OA2
          have IC := IC2
          clear IC2
          have IF := IF2
          clear IF2
          refine wpAnyH_ready (rs := [5]) (by kernel_rfl) (by simp) ?_
          refine AllReadyH.cons (o := { dst := some 27, op := .call { callee := .builtin .append, args := #[.tmp 24, .tmp 26], argTypes := #[22, 22] }, type := _, pos := _, after := _, guard := _ }) rfl (fun K hK => ?_) AllReadyH.nil
          refine Law.step_append_seq _ w3.heap.size 22 rfl (.tmp 24) (.tmp 26) rfl HE.out (.slice A4 zs.length c4) zs.length (flatS zs) (by simp [Act.eval]) (by exact OA.out) gc (gc + 1) (some ⟨gc, 0, none⟩) 1 1 (cellsS (x0, x1, x2, x3)) (by simp [Act.eval]) rfl (Is.seqS IC.out) (four_one _) (by unfold maxLen; omega) (by omega) HB.out.size ?_
          intro v35 W35 own grow
          have hb2 : Below w3.heap.size w3 W35 := HB.out.grown grow HB.out.size (fun g hg => (OA.out.lt g hg).1)
          refine hK.out _ _ (HK.out _ hb2) (fun _ => ?_)
          clear hK K
          try simp only [Act.put, List.setIfInBounds_toArray, List.set_cons_zero, List.set_cons_succ]
          have OA2 : Hid (W35.ownsRow w3.heap.size 30 4 v35 (zs.length + 1) (flatS (zs ++ [(x0, x1, x2, x3)]))) := by show World.ownsRow _ _ _ _ _ _ _; rw [flatS_snoc]; exact own
          have HB2 := Lib.hid hb2
          have IF2 : Hid (Is W35 gf 33 #[.int .i64 0, .int .i64 0, .int .i64 0]) := (grow.block gf IF.out.lt (fun h => own_ne OA.out IF.out (by decide) h.symm)).trans IF.out
          obtain ⟨A7, c7, rfl, _⟩ := own_shape OA2.out
          clear own grow hb2 HB OA IC IF
          have HB := HB2
          have OA := OA2
          clear HB2 OA2
          have IF := IF2
          clear IF2
          refine wpAnyH_ready (rs := [7]) (by kernel_rfl) (by simp) ?_
          refine AllReadyH.cons (o := { dst := some 29, op := .call { callee := .value (.func 13), args := #[.tmp 27, .tmp 28], argTypes := #[22, 23] }, type := _, pos := _, after := _, guard := _ }) rfl (fun K hK => ?_) AllReadyH.nil
          go_simp
          refine Calls.mono (HO.out A7 c7 W35 OA.out HB.out) ?_
          rintro e W36 ⟨rfl, hb1, hb2⟩
          go_wp2_with fail
          refine hK.out _ _ (HK.out _ hb2) (fun _ => ?_)
          clear hK K
          try simp only [Act.put, List.setIfInBounds_toArray, List.set_cons_zero, List.set_cons_succ]
          have HB2 := Lib.hid hb2
          have OA2 := Lib.hid (own_below OA.out hb1)
          have IF2 := Lib.hid (IF.out.below hb1 IF.out.lt)
          clear hb1 hb2 HB OA IF
          have HB := HB2
          have OA := OA2
          clear HB2 OA2
          have IF := IF2
          clear IF2
          refine wpAnyH_ready (rs := [9]) (by kernel_rfl) (by simp) ?_
          refine AllReadyH.cons (o := { dst := none, op := .store 33 (.tmp 8) (.tmp 29), type := _, pos := _, after := _, guard := _ }) rfl (fun K hK => ?_) AllReadyH.nil
          have c80 : W36.cell? ⟨gf, 0, none⟩ = some (.int .i64 0) := IF.out.cell' rfl
          have c81 : W36.cell? ⟨gf, 1, none⟩ = some (.int .i64 0) := IF.out.cell' rfl
          have c82 : W36.cell? ⟨gf, 2, none⟩ = some (.int .i64 0) := IF.out.cell' rfl
          have f80 := IF.out.frozen 0
          have f81 := IF.out.frozen 1
          have f82 := IF.out.frozen 2
          go_simp
          have hb2 := ((HB.out.setCell (p := ⟨gf, 0, none⟩) nf (.int .i64 P0)).setCell (p := ⟨gf, 1, none⟩) nf (.int .i64 P1)).setCell (p := ⟨gf, 2, none⟩) nf (.int .i64 (m' : Int))
          have if2 := ((IF.out.set 0 (.int .i64 P0) rfl).set 1 (.int .i64 P1) rfl).set 2 (.int .i64 (m' : Int)) rfl
          refine hK.out _ _ (HK.out _ hb2) (fun _ => ?_)
          clear hK K
          try simp only [Act.put, List.setIfInBounds_toArray, List.set_cons_zero, List.set_cons_succ]
          refine wpAnyH_done (by kernel_rfl) ?_ _
          go_wp2_with fail
          go_meet
          exact ⟨gf, rfl, if2, hb2⟩
        refine AllReadyH.cons (o := { dst := some 8, op := .alloc 33, type := _, pos := _, after := _, guard := _ }) rfl (fun K hK => ?_) AllReadyH.nil
        go_simp
        refine hK.out _ _ (HK.out _ (HB.out.alloc HB.out.size (.cells #[.int .i64 0, .int .i64 0, .int .i64 0] 33))) (fun _ => ?_)
        clear hK K
        try simp only [Act.put, List.setIfInBounds_toArray, List.set_cons_zero, List.set_cons_succ]
        have HB2 := Lib.hid (HB.out.alloc HB.out.size (.cells #[.int .i64 0, .int .i64 0, .int .i64 0] 33))
        have sb := HB.out.size
        have OA2 := Lib.hid (OA.out.alloc (.cells #[.int .i64 0, .int .i64 0, .int .i64 0] 33))
        have IF2 := Lib.hid (Is.new W1 33 #[.int .i64 0, .int .i64 0, .int .i64 0] rfl)
        have nf : w3.heap.size ≤ W1.heap.size := sb
        have naf : ga ≠ W1.heap.size := by omega
        have la2 : ga < (W1.alloc (.cells #[.int .i64 0, .int .i64 0, .int .i64 0] 33)).heap.size := by simp; omega
        generalize W1.alloc (.cells #[.int .i64 0, .int .i64 0, .int .i64 0] 33) = W38 at *
        clear HB sb OA la
        generalize W1.heap.size = gf at *
        have HB := HB2
        clear HB2
        have OA := OA2
        clear OA2
        have IF := IF2
        clear IF2
        have la := la2
        clear la2
        refine wpAnyH_ready (rs := [2, 4]) (by kernel_rfl) (by simp) ?_
        refine AllReadyH.cons (o := { dst := some 24, op := .call { callee := .builtin .append, args := #[.tmp 22, .tmp 23], argTypes := #[22, 22] }, type := _, pos := _, after := _, guard := _ }) rfl (fun K hK => ?_) ?_
        · refine Law.step_append_seq _ w3.heap.size 22 rfl (.tmp 22) (.tmp 23) rfl HE.out (.slice (some ⟨ga, 0, none⟩) 0 0) 0 [] (by simp [Act.eval]) (by exact OA.out) 0 w3.heap.size A zs.length c (flatS zs) (by simp [Act.eval]) (flatS_length zs) (HSQ.out.below HB.out) (flatS_one _) (by unfold maxLen; omega) (by omega) HB.out.size ?_
          intro v39 W39 own grow
          have hb2 : Below w3.heap.size w3 W39 := HB.out.grown grow HB.out.size (fun g hg => by have h9 : ga = g := Option.some.inj hg; omega)
          refine hK.out _ _ (HK.out _ hb2) (fun _ => ?_)
          clear hK K
          try simp only [Act.put, List.setIfInBounds_toArray, List.set_cons_zero, List.set_cons_succ]
          have OA2 : Hid (W39.ownsRow w3.heap.size 30 4 v39 zs.length (flatS zs)) := by show World.ownsRow _ _ _ _ _ _ _; simpa using own
          have HB2 := Lib.hid hb2
          have IF2 : Hid (Is W39 gf 33 #[.int .i64 0, .int .i64 0, .int .i64 0]) := (grow.block gf IF.out.lt (fun h => naf (Option.some.inj h).symm)).trans IF.out
          obtain ⟨A4, c4, rfl, _⟩ := own_shape OA2.out
          clear own grow hb2 HB OA la IF naf
          have HB := HB2
          have OA := OA2
          clear HB2 OA2
          have IF := IF2
          clear IF2
          refine wpAnyH_ready (rs := [4]) (by kernel_rfl) (by simp) ?_
          refine AllReadyH.cons (o := { dst := some 26, op := .buildSlice 22 1 #[(0, .tmp 25)], type := _, pos := _, after := _, guard := _ }) rfl (fun K hK => ?_) AllReadyH.nil
          go_simp
          refine hK.out _ _ (HK.out _ (HB.out.alloc HB.out.size (.cells #[.int .i64 x0, .int .i64 x1, .int .i64 x2, .int .u64 x3] 30))) (fun _ => ?_)
          clear hK K
          try simp only [Act.put, List.setIfInBounds_toArray, List.set_cons_zero, List.set_cons_succ]
          have HB2 := Lib.hid (HB.out.alloc HB.out.size (.cells #[.int .i64 x0, .int .i64 x1, .int .i64 x2, .int .u64 x3] 30))
          have sb := HB.out.size
          have OA2 := Lib.hid (OA.out.alloc (.cells #[.int .i64 x0, .int .i64 x1, .int .i64 x2, .int .u64 x3] 30))
          have IF2 := Lib.hid (IF.out.alloc (.cells #[.int .i64 x0, .int .i64 x1, .int .i64 x2, .int .u64 x3] 30))
          have lf := IF.out.lt
          have IC2 := Lib.hid (Is.new W39 30 #[.int .i64 x0, .int .i64 x1, .int .i64 x2, .int .u64 x3] rfl)
          generalize W39.alloc (.cells #[.int .i64 x0, .int .i64 x1, .int .i64 x2, .int .u64 x3] 30) = W40 at *
          clear HB sb OA IF lf
          generalize W39.heap.size = gc at *
          have HB := HB2
          clear HB2
          have OA := OA2
          clear OA2
          have IC := IC2
          clear IC2
          have IF := IF2
          clear IF2
          refine wpAnyH_ready (rs := [5]) (by kernel_rfl) (by simp) ?_
          refine AllReadyH.cons (o := { dst := some 27, op := .call { callee := .builtin .append, args := #[.tmp 24, .tmp 26], argTypes := #[22, 22] }, type := _, pos := _, after := _, guard := _ }) rfl (fun K hK => ?_) AllReadyH.nil
          refine Law.step_append_seq _ w3.heap.size 22 rfl (.tmp 24) (.tmp 26) rfl HE.out (.slice A4 zs.length c4) zs.length (flatS zs) (by simp [Act.eval]) (by exact OA.out) gc (gc + 1) (some ⟨gc, 0, none⟩) 1 1 (cellsS (x0, x1, x2, x3)) (by simp [Act.eval]) rfl (Is.seqS IC.out) (four_one _) (by unfold maxLen; omega) (by omega) HB.out.size ?_
          intro v41 W41 own grow
          have hb2 : Below w3.heap.size w3 W41 := HB.out.grown grow HB.out.size (fun g hg => (OA.out.lt g hg).1)
          refine hK.out _ _ (HK.out _ hb2) (fun _ => ?_)
          clear hK K
          try simp only [Act.put, List.setIfInBounds_toArray, List.set_cons_zero, List.set_cons_succ]
          have OA2 : Hid (W41.ownsRow w3.heap.size 30 4 v41 (zs.length + 1) (flatS (zs ++ [(x0, x1, x2, x3)]))) := by show World.ownsRow _ _ _ _ _ _ _; rw [flatS_snoc]; exact own
          have HB2 := Lib.hid hb2
          have IF2 : Hid (Is W41 gf 33 #[.int .i64 0, .int .i64 0, .int .i64 0]) := (grow.block gf IF.out.lt (fun h => own_ne OA.out IF.out (by decide) h.symm)).trans IF.out
          obtain ⟨A7, c7, rfl, _⟩ := own_shape OA2.out
          clear own grow hb2 HB OA IC IF
          have HB := HB2
          have OA := OA2
          clear HB2 OA2
          have IF := IF2
          clear IF2
          refine wpAnyH_ready (rs := [7]) (by kernel_rfl) (by simp) ?_
          refine AllReadyH.cons (o := { dst := some 29, op := .call { callee := .value (.func 13), args := #[.tmp 27, .tmp 28], argTypes := #[22, 23] }, type := _, pos := _, after := _, guard := _ }) rfl (fun K hK => ?_) AllReadyH.nil
          go_simp
          refine Calls.mono (HO.out A7 c7 W41 OA.out HB.out) ?_
          rintro e W42 ⟨rfl, hb1, hb2⟩
          go_wp2_with fail
          refine hK.out _ _ (HK.out _ hb2) (fun _ => ?_)
          clear hK K
          try simp only [Act.put, List.setIfInBounds_toArray, List.set_cons_zero, List.set_cons_succ]
          have HB2 := Lib.hid hb2
          have OA2 := Lib.hid (own_below OA.out hb1)
          have IF2 := Lib.hid (IF.out.below hb1 IF.out.lt)
          clear hb1 hb2 HB OA IF
          have HB := HB2
          have OA := OA2
          clear HB2 OA2
          have IF := IF2
          clear IF2
          refine wpAnyH_ready (rs := [9]) (by kernel_rfl) (by simp) ?_
          refine AllReadyH.cons (o := { dst := none, op := .store 33 (.tmp 8) (.tmp 29), type := _, pos := _, after := _, guard := _ }) rfl (fun K hK => ?_) AllReadyH.nil
          have c80 : W42.cell? ⟨gf, 0, none⟩ = some (.int .i64 0) := IF.out.cell' rfl
          have c81 : W42.cell? ⟨gf, 1, none⟩ = some (.int .i64 0) := IF.out.cell' rfl
          have c82 : W42.cell? ⟨gf, 2, none⟩ = some (.int .i64 0) := IF.out.cell' rfl
          have f80 := IF.out.frozen 0
          have f81 := IF.out.frozen 1
          have f82 := IF.out.frozen 2
          go_simp
          have hb2 := ((HB.out.setCell (p := ⟨gf, 0, none⟩) nf (.int .i64 P0)).setCell (p := ⟨gf, 1, none⟩) nf (.int .i64 P1)).setCell (p := ⟨gf, 2, none⟩) nf (.int .i64 (m' : Int))
          have if2 := ((IF.out.set 0 (.int .i64 P0) rfl).set 1 (.int .i64 P1) rfl).set 2 (.int .i64 (m' : Int)) rfl
          refine hK.out _ _ (HK.out _ hb2) (fun _ => ?_)
          clear hK K
          try simp only [Act.put, List.setIfInBounds_toArray, List.set_cons_zero, List.set_cons_succ]
          refine wpAnyH_done (by kernel_rfl) ?_ _
          go_wp2_with fail
          go_meet
          exact ⟨gf, rfl, if2, hb2⟩
        refine AllReadyH.cons (o := { dst := some 26, op := .buildSlice 22 1 #[(0, .tmp 25)], type := _, pos := _, after := _, guard := _ }) rfl (fun K hK => ?_) AllReadyH.nil
        go_simp
        refine hK.out _ _ (HK.out _ (HB.out.alloc HB.out.size (.cells #[.int .i64 x0, .int .i64 x1, .int .i64 x2, .int .u64 x3] 30))) (fun _ => ?_)
        clear hK K
        try simp only [Act.put, List.setIfInBounds_toArray, List.set_cons_zero, List.set_cons_succ]
        have HB2 := Lib.hid (HB.out.alloc HB.out.size (.cells #[.int .i64 x0, .int .i64 x1, .int .i64 x2, .int .u64 x3] 30))
        have sb := HB.out.size
        have OA2 := Lib.hid (OA.out.alloc (.cells #[.int .i64 x0, .int .i64 x1, .int .i64 x2, .int .u64 x3] 30))
        have IF2 := Lib.hid (IF.out.alloc (.cells #[.int .i64 x0, .int .i64 x1, .int .i64 x2, .int .u64 x3] 30))
        have lf := IF.out.lt
        have IC2 := Lib.hid (Is.new W38 30 #[.int .i64 x0, .int .i64 x1, .int .i64 x2, .int .u64 x3] rfl)
        have nac : ga ≠ W38.heap.size := by omega
        have la2 : ga < (W38.alloc (.cells #[.int .i64 x0, .int .i64 x1, .int .i64 x2, .int .u64 x3] 30)).heap.size := by simp; omega
        generalize W38.alloc (.cells #[.int .i64 x0, .int .i64 x1, .int .i64 x2, .int .u64 x3] 30) = W44 at *
        clear HB sb OA IF lf la
        generalize W38.heap.size = gc at *
        have HB := HB2
        clear HB2
        have OA := OA2
        clear OA2
        have IC := IC2
        clear IC2
        have IF := IF2
        clear IF2
        have la := la2
        clear la2
        refine wpAnyH_ready (rs := [2]) (by kernel_rfl) (by simp) ?_
        refine AllReadyH.cons (o := { dst := some 24, op := .call { callee := .builtin .append, args := #[.tmp 22, .tmp 23], argTypes := #[22, 22] }, type := _, pos := _, after := _, guard := _ }) rfl (fun K hK => ?_) AllReadyH.nil
        refine Law.step_append_seq _ w3.heap.size 22 rfl (.tmp 22) (.tmp 23) rfl HE.out (.slice (some ⟨ga, 0, none⟩) 0 0) 0 [] (by simp [Act.eval]) (by exact OA.out) 0 w3.heap.size A zs.length c (flatS zs) (by simp [Act.eval]) (flatS_length zs) (HSQ.out.below HB.out) (flatS_one _) (by unfold maxLen; omega) (by omega) HB.out.size ?_
        intro v45 W45 own grow
        have hb2 : Below w3.heap.size w3 W45 := HB.out.grown grow HB.out.size (fun g hg => by have h9 : ga = g := Option.some.inj hg; omega)
        refine hK.out _ _ (HK.out _ hb2) (fun _ => ?_)
        clear hK K
        try simp only [Act.put, List.setIfInBounds_toArray, List.set_cons_zero, List.set_cons_succ]
        have OA2 : Hid (W45.ownsRow w3.heap.size 30 4 v45 zs.length (flatS zs)) := by show World.ownsRow _ _ _ _ _ _ _; simpa using own
        have HB2 := Lib.hid hb2
        have IC2 : Hid (Is W45 gc 30 #[.int .i64 x0, .int .i64 x1, .int .i64 x2, .int .u64 x3]) := (grow.block gc IC.out.lt (fun h => nac (Option.some.inj h).symm)).trans IC.out
        have IF2 : Hid (Is W45 gf 33 #[.int .i64 0, .int .i64 0, .int .i64 0]) := (grow.block gf IF.out.lt (fun h => naf (Option.some.inj h).symm)).trans IF.out
        obtain ⟨A4, c4, rfl, _⟩ := own_shape OA2.out
        clear own grow hb2 HB OA la IC nac IF naf
        have HB := HB2
        have OA := OA2
        clear HB2 OA2
        have IC := IC2
        clear IC2
        have IF := IF2
        clear IF2
        refine wpAnyH_ready (rs := [5]) (by kernel_rfl) (by simp) ?_
        refine AllReadyH.cons (o := { dst := some 27, op := .call { callee := .builtin .append, args := #[.tmp 24, .tmp 26], argTypes := #[22, 22] }, type := _, pos := _, after := _, guard := _ }) rfl (fun K hK => ?_) AllReadyH.nil
        refine Law.step_append_seq _ w3.heap.size 22 rfl (.tmp 24) (.tmp 26) rfl HE.out (.slice A4 zs.length c4) zs.length (flatS zs) (by simp [Act.eval]) (by exact OA.out) gc (gc + 1) (some ⟨gc, 0, none⟩) 1 1 (cellsS (x0, x1, x2, x3)) (by simp [Act.eval]) rfl (Is.seqS IC.out) (four_one _) (by unfold maxLen; omega) (by omega) HB.out.size ?_
        intro v46 W46 own grow
        have hb2 : Below w3.heap.size w3 W46 := HB.out.grown grow HB.out.size (fun g hg => (OA.out.lt g hg).1)
        refine hK.out _ _ (HK.out _ hb2) (fun _ => ?_)
        clear hK K
        try simp only [Act.put, List.setIfInBounds_toArray, List.set_cons_zero, List.set_cons_succ]
        have OA2 : Hid (W46.ownsRow w3.heap.size 30 4 v46 (zs.length + 1) (flatS (zs ++ [(x0, x1, x2, x3)]))) := by show World.ownsRow _ _ _ _ _ _ _; rw [flatS_snoc]; exact own
        have HB2 := Lib.hid hb2
        have IF2 : Hid (Is W46 gf 33 #[.int .i64 0, .int .i64 0, .int .i64 0]) := (grow.block gf IF.out.lt (fun h => own_ne OA.out IF.out (by decide) h.symm)).trans IF.out
        obtain ⟨A7, c7, rfl, _⟩ := own_shape OA2.out
        clear own grow hb2 HB OA IC IF
        have HB := HB2
        have OA := OA2
        clear HB2 OA2
        have IF := IF2
        clear IF2
        refine wpAnyH_ready (rs := [7]) (by kernel_rfl) (by simp) ?_
        refine AllReadyH.cons (o := { dst := some 29, op := .call { callee := .value (.func 13), args := #[.tmp 27, .tmp 28], argTypes := #[22, 23] }, type := _, pos := _, after := _, guard := _ }) rfl (fun K hK => ?_) AllReadyH.nil
        go_simp
        refine Calls.mono (HO.out A7 c7 W46 OA.out HB.out) ?_
        rintro e W47 ⟨rfl, hb1, hb2⟩
        go_wp2_with fail
        refine hK.out _ _ (HK.out _ hb2) (fun _ => ?_)
        clear hK K
        try simp only [Act.put, List.setIfInBounds_toArray, List.set_cons_zero, List.set_cons_succ]
        have HB2 := Lib.hid hb2
        have OA2 := Lib.hid (own_below OA.out hb1)
        have IF2 := Lib.hid (IF.out.below hb1 IF.out.lt)
        clear hb1 hb2 HB OA IF
        have HB := HB2
        have OA := OA2
        clear HB2 OA2
        have IF := IF2
        clear IF2
        refine wpAnyH_ready (rs := [9]) (by kernel_rfl) (by simp) ?_
        refine AllReadyH.cons (o := { dst := none, op := .store 33 (.tmp 8) (.tmp 29), type := _, pos := _, after := _, guard := _ }) rfl (fun K hK => ?_) AllReadyH.nil
        have c80 : W47.cell? ⟨gf, 0, none⟩ = some (.int .i64 0) := IF.out.cell' rfl
        have c81 : W47.cell? ⟨gf, 1, none⟩ = some (.int .i64 0) := IF.out.cell' rfl
        have c82 : W47.cell? ⟨gf, 2, none⟩ = some (.int .i64 0) := IF.out.cell' rfl
        have f80 := IF.out.frozen 0
        have f81 := IF.out.frozen 1
        have f82 := IF.out.frozen 2
        go_simp
        have hb2 := ((HB.out.setCell (p := ⟨gf, 0, none⟩) nf (.int .i64 P0)).setCell (p := ⟨gf, 1, none⟩) nf (.int .i64 P1)).setCell (p := ⟨gf, 2, none⟩) nf (.int .i64 (m' : Int))
        have if2 := ((IF.out.set 0 (.int .i64 P0) rfl).set 1 (.int .i64 P1) rfl).set 2 (.int .i64 (m' : Int)) rfl
        refine hK.out _ _ (HK.out _ hb2) (fun _ => ?_)
        clear hK K
        try simp only [Act.put, List.setIfInBounds_toArray, List.set_cons_zero, List.set_cons_succ]
        refine wpAnyH_done (by kernel_rfl) ?_ _
        go_wp2_with fail
        go_meet
        exact ⟨gf, rfl, if2, hb2⟩
      refine AllReadyH.cons (o := { dst := some 26, op := .buildSlice 22 1 #[(0, .tmp 25)], type := _, pos := _, after := _, guard := _ }) rfl (fun K hK => ?_) ?_
      · go_simp
        refine hK.out _ _ (HK.out _ (HB.out.alloc HB.out.size (.cells #[.int .i64 x0, .int .i64 x1, .int .i64 x2, .int .u64 x3] 30))) (fun _ => ?_)
        clear hK K
        try simp only [Act.put, List.setIfInBounds_toArray, List.set_cons_zero, List.set_cons_succ]
        have HB2 := Lib.hid (HB.out.alloc HB.out.size (.cells #[.int .i64 x0, .int .i64 x1, .int .i64 x2, .int .u64 x3] 30))
        have sb := HB.out.size
        have IC2 := Lib.hid (Is.new W0 30 #[.int .i64 x0, .int .i64 x1, .int .i64 x2, .int .u64 x3] rfl)
        generalize W0.alloc (.cells #[.int .i64 x0, .int .i64 x1, .int .i64 x2, .int .u64 x3] 30) = W49 at *
        clear HB sb
        generalize W0.heap.size = gc at *
        have HB := HB2
        clear HB2
        have IC := IC2
        clear IC2
        refine wpAnyH_ready (rs := [0, 8]) (by kernel_rfl) (by simp) ?_
        refine AllReadyH.cons (o := { dst := some 22, op := .buildSlice 22 0 #[], type := _, pos := _, after := _, guard := _ }) rfl (fun K hK => ?_) ?_
        · go_simp
          refine hK.out _ _ (HK.out _ (HB.out.alloc HB.out.size (.cells #[] 30))) (fun _ => ?_)
          clear hK K
          try simp only [Act.put, List.setIfInBounds_toArray, List.set_cons_zero, List.set_cons_succ]
          have HB2 := Lib.hid (HB.out.alloc HB.out.size (.cells #[] 30))
          have sb := HB.out.size
          have IC2 := Lib.hid (IC.out.alloc (.cells #[] 30))
          have lc := IC.out.lt
          have OA2 := Lib.hid (own_empty W49 30 (base := w3.heap.size) sb)
          have na : w3.heap.size ≤ W49.heap.size := sb
          have nac : W49.heap.size ≠ gc := by omega
          have la2 : W49.heap.size < (W49.alloc (.cells #[] 30)).heap.size := by simp
          generalize W49.alloc (.cells #[] 30) = W50 at *
          clear HB sb IC lc
          generalize W49.heap.size = ga at *
          have HB := HB2
          clear HB2
          have OA := OA2
          clear OA2
          have IC := IC2
          clear IC2
          have la := la2
          clear la2
          refine wpAnyH_ready (rs := [2, 8]) (by kernel_rfl) (by simp) ?_
          refine AllReadyH.cons (o := { dst := some 24, op := .call { callee := .builtin .append, args := #[.tmp 22, .tmp 23], argTypes := #[22, 22] }, type := _, pos := _, after := _, guard := _ }) rfl (fun K hK => ?_) ?_
          · refine Law.step_append_seq _ w3.heap.size 22 rfl (.tmp 22) (.tmp 23) rfl HE.out (.slice (some ⟨ga, 0, none⟩) 0 0) 0 [] (by simp [Act.eval]) (by exact OA.out) 0 w3.heap.size A zs.length c (flatS zs) (by simp [Act.eval]) (flatS_length zs) (HSQ.out.below HB.out) (flatS_one _) (by unfold maxLen; omega) (by omega) HB.out.size ?_
            intro v51 W51 own grow
            have hb2 : Below w3.heap.size w3 W51 := HB.out.grown grow HB.out.size (fun g hg => by have h9 : ga = g := Option.some.inj hg; omega)
            refine hK.out _ _ (HK.out _ hb2) (fun _ => ?_)
            clear hK K
            try simp only [Act.put, List.setIfInBounds_toArray, List.set_cons_zero, List.set_cons_succ]
            have OA2 : Hid (W51.ownsRow w3.heap.size 30 4 v51 zs.length (flatS zs)) := by show World.ownsRow _ _ _ _ _ _ _; simpa using own
            have HB2 := Lib.hid hb2
            have IC2 : Hid (Is W51 gc 30 #[.int .i64 x0, .int .i64 x1, .int .i64 x2, .int .u64 x3]) := (grow.block gc IC.out.lt (fun h => nac (Option.some.inj h).symm)).trans IC.out
            obtain ⟨A4, c4, rfl, _⟩ := own_shape OA2.out
            clear own grow hb2 HB OA la IC nac
            have HB := HB2
            have OA := OA2
            clear HB2 OA2
            have IC := IC2
            clear IC2
            refine wpAnyH_ready (rs := [5, 8]) (by kernel_rfl) (by simp) ?_
            refine AllReadyH.cons (o := { dst := some 27, op := .call { callee := .builtin .append, args := #[.tmp 24, .tmp 26], argTypes := #[22, 22] }, type := _, pos := _, after := _, guard := _ }) rfl (fun K hK => ?_) ?_
            · refine Law.step_append_seq _ w3.heap.size 22 rfl (.tmp 24) (.tmp 26) rfl HE.out (.slice A4 zs.length c4) zs.length (flatS zs) (by simp [Act.eval]) (by exact OA.out) gc (gc + 1) (some ⟨gc, 0, none⟩) 1 1 (cellsS (x0, x1, x2, x3)) (by simp [Act.eval]) rfl (Is.seqS IC.out) (four_one _) (by unfold maxLen; omega) (by omega) HB.out.size ?_
              intro v52 W52 own grow
              have hb2 : Below w3.heap.size w3 W52 := HB.out.grown grow HB.out.size (fun g hg => (OA.out.lt g hg).1)
              refine hK.out _ _ (HK.out _ hb2) (fun _ => ?_)
              clear hK K
              try simp only [Act.put, List.setIfInBounds_toArray, List.set_cons_zero, List.set_cons_succ]
              have OA2 : Hid (W52.ownsRow w3.heap.size 30 4 v52 (zs.length + 1) (flatS (zs ++ [(x0, x1, x2, x3)]))) := by show World.ownsRow _ _ _ _ _ _ _; rw [flatS_snoc]; exact own
              have HB2 := Lib.hid hb2
              obtain ⟨A7, c7, rfl, _⟩ := own_shape OA2.out
              clear own grow hb2 HB OA IC
              have HB := HB2
              have OA := OA2
              clear HB2 OA2
              refine wpAnyH_ready (rs := [7, 8]) (by kernel_rfl) (by simp) ?_
              refine AllReadyH.cons (o := { dst := some 29, op := .call { callee := .value (.func 13), args := #[.tmp 27, .tmp 28], argTypes := #[22, 23] }, type := _, pos := _, after := _, guard := _ }) rfl (fun K hK => ?_) ?_
              · go_simp
                refine Calls.mono (HO.out A7 c7 W52 OA.out HB.out) ?_
                rintro e W53 ⟨rfl, hb1, hb2⟩
                go_wp2_with fail
                refine hK.out _ _ (HK.out _ hb2) (fun _ => ?_)
                clear hK K
                try simp only [Act.put, List.setIfInBounds_toArray, List.set_cons_zero, List.set_cons_succ]
                have HB2 := Lib.hid hb2
                have OA2 := Lib.hid (own_below OA.out hb1)
                clear hb1 hb2 HB OA
                have HB := HB2
                have OA := OA2
                clear HB2 OA2
                refine wpAnyH_ready (rs := [8]) (by kernel_rfl) (by simp) ?_
                refine AllReadyH.cons (o := { dst := some 8, op := .alloc 33, type := _, pos := _, after := _, guard := _ }) rfl (fun K hK => ?_) AllReadyH.nil
                go_simp
                refine hK.out _ _ (HK.out _ (HB.out.alloc HB.out.size (.cells #[.int .i64 0, .int .i64 0, .int .i64 0] 33))) (fun _ => ?_)
                clear hK K
                try simp only [Act.put, List.setIfInBounds_toArray, List.set_cons_zero, List.set_cons_succ]
                have HB2 := Lib.hid (HB.out.alloc HB.out.size (.cells #[.int .i64 0, .int .i64 0, .int .i64 0] 33))
                have sb := HB.out.size
                have OA2 := Lib.hid (OA.out.alloc (.cells #[.int .i64 0, .int .i64 0, .int .i64 0] 33))
                have IF2 := Lib.hid (Is.new W53 33 #[.int .i64 0, .int .i64 0, .int .i64 0] rfl)
                have nf : w3.heap.size ≤ W53.heap.size := sb
                generalize W53.alloc (.cells #[.int .i64 0, .int .i64 0, .int .i64 0] 33) = W54 at *
                clear HB sb OA
                generalize W53.heap.size = gf at *
                have HB := HB2
                clear HB2
                have OA := OA2
                clear OA2
                have IF := IF2
                clear IF2
                refine wpAnyH_ready (rs := [9]) (by kernel_rfl) (by simp) ?_
                refine AllReadyH.cons (o := { dst := none, op := .store 33 (.tmp 8) (.tmp 29), type := _, pos := _, after := _, guard := _ }) rfl (fun K hK => ?_) AllReadyH.nil
                have c80 : W54.cell? ⟨gf, 0, none⟩ = some (.int .i64 0) := IF.out.cell' rfl
                have c81 : W54.cell? ⟨gf, 1, none⟩ = some (.int .i64 0) := IF.out.cell' rfl
                have c82 : W54.cell? ⟨gf, 2, none⟩ = some (.int .i64 0) := IF.out.cell' rfl
                have f80 := IF.out.frozen 0
                have f81 := IF.out.frozen 1
                have f82 := IF.out.frozen 2
                go_simp
                have hb2 := ((HB.out.setCell (p := ⟨gf, 0, none⟩) nf (.int .i64 P0)).setCell (p := ⟨gf, 1, none⟩) nf (.int .i64 P1)).setCell (p := ⟨gf, 2, none⟩) nf (.int .i64 (m' : Int))
                have if2 := ((IF.out.set 0 (.int .i64 P0) rfl).set 1 (.int .i64 P1) rfl).set 2 (.int .i64 (m' : Int)) rfl
                refine hK.out _ _ (HK.out _ hb2) (fun _ => ?_)
                clear hK K
                try simp only [Act.put, List.setIfInBounds_toArray, List.set_cons_zero, List.set_cons_succ]
                refine wpAnyH_done (by kernel_rfl) ?_ _
                go_wp2_with fail
                go_meet
                exact ⟨gf, rfl, if2, hb2⟩
              refine AllReadyH.cons (o := { dst := some 8, op := .alloc 33, type := _, pos := _, after := _, guard := _ }) rfl (fun K hK => ?_) AllReadyH.nil
              go_simp
              refine hK.out _ _ (HK.out _ (HB.out.alloc HB.out.size (.cells #[.int .i64 0, .int .i64 0, .int .i64 0] 33))) (fun _ => ?_)
              clear hK K
              try simp only [Act.put, List.setIfInBounds_toArray, List.set_cons_zero, List.set_cons_succ]
              have HB2 := Lib.hid (HB.out.alloc HB.out.size (.cells #[.int .i64 0, .int .i64 0, .int .i64 0] 33))
              have sb := HB.out.size
              have OA2 := Lib.hid (OA.out.alloc (.cells #[.int .i64 0, .int .i64 0, .int .i64 0] 33))
              have IF2 := Lib.hid (Is.new W52 33 #[.int .i64 0, .int .i64 0, .int .i64 0] rfl)
              have nf : w3.heap.size ≤ W52.heap.size := sb
              generalize W52.alloc (.cells #[.int .i64 0, .int .i64 0, .int .i64 0] 33) = W56 at *
              clear HB sb OA
              generalize W52.heap.size = gf at *
              have HB := HB2
              clear HB2
              have OA := OA2
              clear OA2
              have IF := IF2
              clear IF2
              refine wpAnyH_ready (rs := [7]) (by kernel_rfl) (by simp) ?_
              refine AllReadyH.cons (o := { dst := some 29, op := .call { callee := .value (.func 13), args := #[.tmp 27, .tmp 28], argTypes := #[22, 23] }, type := _, pos := _, after := _, guard := _ }) rfl (fun K hK => ?_) AllReadyH.nil
              go_simp
              refine Calls.mono (HO.out A7 c7 W56 OA.out HB.out) ?_
              rintro e W57 ⟨rfl, hb1, hb2⟩
              go_wp2_with fail
              refine hK.out _ _ (HK.out _ hb2) (fun _ => ?_)
              clear hK K
              try simp only [Act.put, List.setIfInBounds_toArray, List.set_cons_zero, List.set_cons_succ]
              have HB2 := Lib.hid hb2
              have OA2 := Lib.hid (own_below OA.out hb1)
              have IF2 := Lib.hid (IF.out.below hb1 IF.out.lt)
              clear hb1 hb2 HB OA IF
              have HB := HB2
              have OA := OA2
              clear HB2 OA2
              have IF := IF2
              clear IF2
              refine wpAnyH_ready (rs := [9]) (by kernel_rfl) (by simp) ?_
              refine AllReadyH.cons (o := { dst := none, op := .store 33 (.tmp 8) (.tmp 29), type := _, pos := _, after := _, guard := _ }) rfl (fun K hK => ?_) AllReadyH.nil
              have c80 : W57.cell? ⟨gf, 0, none⟩ = some (.int .i64 0) := IF.out.cell' rfl
              have c81 : W57.cell? ⟨gf, 1, none⟩ = some (.int .i64 0) := IF.out.cell' rfl
              have c82 : W57.cell? ⟨gf, 2, none⟩ = some (.int .i64 0) := IF.out.cell' rfl
              have f80 := IF.out.frozen 0
              have f81 := IF.out.frozen 1
              have f82 := IF.out.frozen 2
              go_simp
              have hb2 := ((HB.out.setCell (p := ⟨gf, 0, none⟩) nf (.int .i64 P0)).setCell (p := ⟨gf, 1, none⟩) nf (.int .i64 P1)).setCell (p := ⟨gf, 2, none⟩) nf (.int .i64 (m' : Int))
              have if2 := ((IF.out.set 0 (.int .i64 P0) rfl).set 1 (.int .i64 P1) rfl).set 2 (.int .i64 (m' : Int)) rfl
              refine hK.out _ _ (HK.out _ hb2) (fun _ => ?_)
              clear hK K
              try simp only [Act.put, List.setIfInBounds_toArray, List.set_cons_zero, List.set_cons_succ]
              refine wpAnyH_done (by kernel_rfl) ?_ _
              go_wp2_with fail
              go_meet
              exact ⟨gf, rfl, if2, hb2⟩
            refine AllReadyH.cons (o := { dst := some 8, op := .alloc 33, type := _, pos := _, after := _, guard := _ }) rfl (fun K hK => ?_) AllReadyH.nil
            go_simp
            refine hK.out _ _ (HK.out _ (HB.out.alloc HB.out.size (.cells #[.int .i64 0, .int .i64 0, .int .i64 0] 33))) (fun _ => ?_)
            clear hK K
            try simp only [Act.put, List.setIfInBounds_toArray, List.set_cons_zero, List.set_cons_succ]
            have HB2 := Lib.hid (HB.out.alloc HB.out.size (.cells #[.int .i64 0, .int .i64 0, .int .i64 0] 33))
            have sb := HB.out.size
            have OA2 := Lib.hid (OA.out.alloc (.cells #[.int .i64 0, .int .i64 0, .int .i64 0] 33))
            have IC2 := Lib.hid (IC.out.alloc (.cells #[.int .i64 0, .int .i64 0, .int .i64 0] 33))
            have lc := IC.out.lt
            have IF2 := Lib.hid (Is.new W51 33 #[.int .i64 0, .int .i64 0, .int .i64 0] rfl)
            have nf : w3.heap.size ≤ W51.heap.size := sb
            generalize W51.alloc (.cells #[.int .i64 0, .int .i64 0, .int .i64 0] 33) = W59 at *
            clear HB sb OA IC lc
            generalize W51.heap.size = gf at *
            have HB := HB2
            clear HB2
            have OA := OA2
            clear OA2
            have IC := IC2
            clear IC2
            have IF := IF2
            clear IF2
            refine wpAnyH_ready (rs := [5]) (by kernel_rfl) (by simp) ?_
            refine AllReadyH.cons (o := { dst := some 27, op := .call { callee := .builtin .append, args := #[.tmp 24, .tmp 26], argTypes := #[22, 22] }, type := _, pos := _, after := _, guard := _ }) rfl (fun K hK => ?_) AllReadyH.nil
            refine Law.step_append_seq _ w3.heap.size 22 rfl (.tmp 24) (.tmp 26) rfl HE.out (.slice A4 zs.length c4) zs.length (flatS zs) (by simp [Act.eval]) (by exact OA.out) gc (gc + 1) (some ⟨gc, 0, none⟩) 1 1 (cellsS (x0, x1, x2, x3)) (by simp [Act.eval]) rfl (Is.seqS IC.out) (four_one _) (by unfold maxLen; omega) (by omega) HB.out.size ?_
            intro v60 W60 own grow
            have hb2 : Below w3.heap.size w3 W60 := HB.out.grown grow HB.out.size (fun g hg => (OA.out.lt g hg).1)
            refine hK.out _ _ (HK.out _ hb2) (fun _ => ?_)
            clear hK K
            try simp only [Act.put, List.setIfInBounds_toArray, List.set_cons_zero, List.set_cons_succ]
            have OA2 : Hid (W60.ownsRow w3.heap.size 30 4 v60 (zs.length + 1) (flatS (zs ++ [(x0, x1, x2, x3)]))) := by show World.ownsRow _ _ _ _ _ _ _; rw [flatS_snoc]; exact own
            have HB2 := Lib.hid hb2
            have IF2 : Hid (Is W60 gf 33 #[.int .i64 0, .int .i64 0, .int .i64 0]) := (grow.block gf IF.out.lt (fun h => own_ne OA.out IF.out (by decide) h.symm)).trans IF.out
            obtain ⟨A7, c7, rfl, _⟩ := own_shape OA2.out
            clear own grow hb2 HB OA IC IF
            have HB := HB2
            have OA := OA2
            clear HB2 OA2
            have IF := IF2
            clear IF2
            refine wpAnyH_ready (rs := [7]) (by kernel_rfl) (by simp) ?_
            refine AllReadyH.cons (o := { dst := some 29, op := .call { callee := .value (.func 13), args := #[.tmp 27, .tmp 28], argTypes := #[22, 23] }, type := _, pos := _, after := _, guard := _ }) rfl (fun K hK => ?_) AllReadyH.nil
            go_simp
            refine Calls.mono (HO.out A7 c7 W60 OA.out HB.out) ?_
            rintro e W61 ⟨rfl, hb1, hb2⟩
            go_wp2_with fail
            refine hK.out _ _ (HK.out _ hb2) (fun _ => ?_)
            clear hK K
            try simp only [Act.put, List.setIfInBounds_toArray, List.set_cons_zero, List.set_cons_succ]
            have HB2 := Lib.hid hb2
            have OA2 := Lib.hid (own_below OA.out hb1)
            have IF2 := Lib.hid (IF.out.below hb1 IF.out.lt)
            clear hb1 hb2 HB OA IF
            have HB := HB2
            have OA := OA2
            clear HB2 OA2
            have IF := IF2
            clear IF2
            refine wpAnyH_ready (rs := [9]) (by kernel_rfl) (by simp) ?_
            refine AllReadyH.cons (o := { dst := none, op := .store 33 (.tmp 8) (.tmp 29), type := _, pos := _, after := _, guard := _ }) rfl (fun K hK => ?_) AllReadyH.nil
            have c80 : W61.cell? ⟨gf, 0, none⟩ = some (.int .i64 0) := IF.out.cell' rfl
            have c81 : W61.cell? ⟨gf, 1, none⟩ = some (.int .i64 0) := IF.out.cell' rfl
            have c82 : W61.cell? ⟨gf, 2, none⟩ = some (.int .i64 0) := IF.out.cell' rfl
            have f80 := IF.out.frozen 0
            have f81 := IF.out.frozen 1
            have f82 := IF.out.frozen 2
            go_simp
            have hb2 := ((HB.out.setCell (p := ⟨gf, 0, none⟩) nf (.int .i64 P0)).setCell (p := ⟨gf, 1, none⟩) nf (.int .i64 P1)).setCell (p := ⟨gf, 2, none⟩) nf (.int .i64 (m' : Int))
            have if2 := ((IF.out.set 0 (.int .i64 P0) rfl).set 1 (.int .i64 P1) rfl).set 2 (.int .i64 (m' : Int)) rfl
            refine hK.out _ _ (HK.out _ hb2) (fun _ => ?_)
            clear hK K
            try simp only [Act.put, List.setIfInBounds_toArray, List.set_cons_zero, List.set_cons_succ]
            refine wpAnyH_done (by kernel_rfl) ?_ _
            go_wp2_with fail
            go_meet
            exact ⟨gf, rfl, if2, hb2⟩
          refine AllReadyH.cons (o := { dst := some 8, op := .alloc 33, type := _, pos := _, after := _, guard := _ }) rfl (fun K hK => ?_) AllReadyH.nil
          go_simp
          refine hK.out _ _ (HK.out _ (HB.out.alloc HB.out.size (.cells #[.int .i64 0, .int .i64 0, .int .i64 0] 33))) (fun _ => ?_)
          clear hK K
          try simp only [Act.put, List.setIfInBounds_toArray, List.set_cons_zero, List.set_cons_succ]
          have HB2 := Lib.hid (HB.out.alloc HB.out.size (.cells #[.int .i64 0, .int .i64 0, .int .i64 0] 33))
          have sb := HB.out.size
          have OA2 := Lib.hid (OA.out.alloc (.cells #[.int .i64 0, .int .i64 0, .int .i64 0] 33))
          have IC2 := Lib.hid (IC.out.alloc (.cells #[.int .i64 0, .int .i64 0, .int .i64 0] 33))
          have lc := IC.out.lt
          have IF2 := Lib.hid (Is.new W50 33 #[.int .i64 0, .int .i64 0, .int .i64 0] rfl)
          have nf : w3.heap.size ≤ W50.heap.size := sb
          have naf : ga ≠ W50.heap.size := by omega
          have la2 : ga < (W50.alloc (.cells #[.int .i64 0, .int .i64 0, .int .i64 0] 33)).heap.size := by simp; omega
          generalize W50.alloc (.cells #[.int .i64 0, .int .i64 0, .int .i64 0] 33) = W63 at *
          clear HB sb OA IC lc la
          generalize W50.heap.size = gf at *
          have HB := HB2
          clear HB2
          have OA := OA2
          clear OA2
          have IC := IC2
          clear IC2
          have IF := IF2
          clear IF2
          have la := la2
          clear la2
          refine wpAnyH_ready (rs := [2]) (by kernel_rfl) (by simp) ?_
          refine AllReadyH.cons (o := { dst := some 24, op := .call { callee := .builtin .append, args := #[.tmp 22, .tmp 23], argTypes := #[22, 22] }, type := _, pos := _, after := _, guard := _ }) rfl (fun K hK => ?_) AllReadyH.nil
          refine Law.step_append_seq _ w3.heap.size 22 rfl (.tmp 22) (.tmp 23) rfl HE.out (.slice (some ⟨ga, 0, none⟩) 0 0) 0 [] (by simp [Act.eval]) (by exact OA.out) 0 w3.heap.size A zs.length c (flatS zs) (by simp [Act.eval]) (flatS_length zs) (HSQ.out.below HB.out) (flatS_one _) (by unfold maxLen; omega) (by omega) HB.out.size ?_
          intro v64 W64 own grow
          have hb2 : Below w3.heap.size w3 W64 := HB.out.grown grow HB.out.size (fun g hg => by have h9 : ga = g := Option.some.inj hg; omega)
          refine hK.out _ _ (HK.out _ hb2) (fun _ => ?_)
          clear hK K
          try simp only [Act.put, List.setIfInBounds_toArray, List.set_cons_zero, List.set_cons_succ]
          have OA2 : Hid (W64.ownsRow w3.heap.size 30 4 v64 zs.length (flatS zs)) := by show World.ownsRow _ _ _ _ _ _ _; simpa using own
          have HB2 := Lib.hid hb2
          have IC2 : Hid (Is W64 gc 30 #[.int .i64 x0, .int .i64 x1, .int .i64 x2, .int .u64 x3]) := (grow.block gc IC.out.lt (fun h => nac (Option.some.inj h).symm)).trans IC.out
          have IF2 : Hid (Is W64 gf 33 #[.int .i64 0, .int .i64 0, .int .i64 0]) := (grow.block gf IF.out.lt (fun h => naf (Option.some.inj h).symm)).trans IF.out
          obtain ⟨A4, c4, rfl, _⟩ := own_shape OA2.out
          clear own grow hb2 HB OA la IC nac IF naf
          have HB := HB2
          have OA := OA2
          clear HB2 OA2
          have IC := IC2
          clear IC2
          have IF := IF2
          clear IF2
          refine wpAnyH_ready (rs := [5]) (by kernel_rfl) (by simp) ?_
          refine AllReadyH.cons (o := { dst := some 27, op := .call { callee := .builtin .append, args := #[.tmp 24, .tmp 26], argTypes := #[22, 22] }, type := _, pos := _, after := _, guard := _ }) rfl (fun K hK => ?_) AllReadyH.nil
          refine Law.step_append_seq _ w3.heap.size 22 rfl (.tmp 24) (.tmp 26) rfl HE.out (.slice A4 zs.length c4) zs.length (flatS zs) (by simp [Act.eval]) (by exact OA.out) gc (gc + 1) (some ⟨gc, 0, none⟩) 1 1 (cellsS (x0, x1, x2, x3)) (by simp [Act.eval]) rfl (Is.seqS IC.out) (four_one _) (by unfold maxLen; omega) (by omega) HB.out.size ?_
          intro v65 W65 own grow
          have hb2 : Below w3.heap.size w3 W65 := HB.out.grown grow HB.out.size (fun g hg => (OA.out.lt g hg).1)
          refine hK.out _ _ (HK.out _ hb2) (fun _ => ?_)
          clear hK K
          try simp only [Act.put, List.setIfInBounds_toArray, List.set_cons_zero, List.set_cons_succ]
          have OA2 : Hid (W65.ownsRow w3.heap.size 30 4 v65 (zs.length + 1) (flatS (zs ++ [(x0, x1, x2, x3)]))) := by show World.ownsRow _ _ _ _ _ _ _; rw [flatS_snoc]; exact own
          have HB2 := Lib.hid hb2
          have IF2 : Hid (Is W65 gf 33 #[.int .i64 0, .int .i64 0, .int .i64 0]) := (grow.block gf IF.out.lt (fun h => own_ne OA.out IF.out (by decide) h.symm)).trans IF.out
          obtain ⟨A7, c7, rfl, _⟩ := own_shape OA2.out
          clear own grow hb2 HB OA IC IF
          have HB := HB2
          have OA := OA2
          clear HB2 OA2
          have IF := IF2
          clear IF2
          refine wpAnyH_ready (rs := [7]) (by kernel_rfl) (by simp) ?_
          refine AllReadyH.cons (o := { dst := some 29, op := .call { callee := .value (.func 13), args := #[.tmp 27, .tmp 28], argTypes := #[22, 23] }, type := _, pos := _, after := _, guard := _ }) rfl (fun K hK => ?_) AllReadyH.nil
          go_simp
          refine Calls.mono (HO.out A7 c7 W65 OA.out HB.out) ?_
          rintro e W66 ⟨rfl, hb1, hb2⟩
          go_wp2_with fail
          refine hK.out _ _ (HK.out _ hb2) (fun _ => ?_)
          clear hK K
          try simp only [Act.put, List.setIfInBounds_toArray, List.set_cons_zero, List.set_cons_succ]
          have HB2 := Lib.hid hb2
          have OA2 := Lib.hid (own_below OA.out hb1)
          have IF2 := Lib.hid (IF.out.below hb1 IF.out.lt)
          clear hb1 hb2 HB OA IF
          have HB := HB2
          have OA := OA2
          clear HB2 OA2
          have IF := IF2
          clear IF2
          refine wpAnyH_ready (rs := [9]) (by kernel_rfl) (by simp) ?_
          refine AllReadyH.cons (o := { dst := none, op := .store 33 (.tmp 8) (.tmp 29), type := _, pos := _, after := _, guard := _ }) rfl (fun K hK => ?_) AllReadyH.nil
          have c80 : W66.cell? ⟨gf, 0, none⟩ = some (.int .i64 0) := IF.out.cell' rfl
          have c81 : W66.cell? ⟨gf, 1, none⟩ = some (.int .i64 0) := IF.out.cell' rfl
          have c82 : W66.cell? ⟨gf, 2, none⟩ = some (.int .i64 0) := IF.out.cell' rfl
          have f80 := IF.out.frozen 0
          have f81 := IF.out.frozen 1
          have f82 := IF.out.frozen 2
          go_simp
          have hb2 := ((HB.out.setCell (p := ⟨gf, 0, none⟩) nf (.int .i64 P0)).setCell (p := ⟨gf, 1, none⟩) nf (.int .i64 P1)).setCell (p := ⟨gf, 2, none⟩) nf (.int .i64 (m' : Int))
          have if2 := ((IF.out.set 0 (.int .i64 P0) rfl).set 1 (.int .i64 P1) rfl).set 2 (.int .i64 (m' : Int)) rfl
          refine hK.out _ _ (HK.out _ hb2) (fun _ => ?_)
          clear hK K
          try simp only [Act.put, List.setIfInBounds_toArray, List.set_cons_zero, List.set_cons_succ]
          refine wpAnyH_done (by kernel_rfl) ?_ _
          go_wp2_with fail
          go_meet
          exact ⟨gf, rfl, if2, hb2⟩
        refine AllReadyH.cons (o := { dst := some 8, op := .alloc 33, type := _, pos := _, after := _, guard := _ }) rfl (fun K hK => ?_) AllReadyH.nil
        go_simp
        refine hK.out _ _ (HK.out _ (HB.out.alloc HB.out.size (.cells #[.int .i64 0, .int .i64 0, .int .i64 0] 33))) (fun _ => ?_)
        clear hK K
        try simp only [Act.put, List.setIfInBounds_toArray, List.set_cons_zero, List.set_cons_succ]
        have HB2 := Lib.hid (HB.out.alloc HB.out.size (.cells #[.int .i64 0, .int .i64 0, .int .i64 0] 33))
        have sb := HB.out.size
        have IC2 := Lib.hid (IC.out.alloc (.cells #[.int .i64 0, .int .i64 0, .int .i64 0] 33))
        have lc := IC.out.lt
        have IF2 := Lib.hid (Is.new W49 33 #[.int .i64 0, .int .i64 0, .int .i64 0] rfl)
        have nf : w3.heap.size ≤ W49.heap.size := sb
        generalize W49.alloc (.cells #[.int .i64 0, .int .i64 0, .int .i64 0] 33) = W68 at *
        clear HB sb IC lc
        generalize W49.heap.size = gf at *
        have HB := HB2
        clear HB2
        have IC := IC2
        clear IC2
        have IF := IF2
        clear IF2
        refine wpAnyH_ready (rs := [0]) (by kernel_rfl) (by simp) ?_
        refine AllReadyH.cons (o := { dst := some 22, op := .buildSlice 22 0 #[], type := _, pos := _, after := _, guard := _ }) rfl (fun K hK => ?_) AllReadyH.nil
        go_simp
        refine hK.out _ _ (HK.out _ (HB.out.alloc HB.out.size (.cells #[] 30))) (fun _ => ?_)
        clear hK K
        try simp only [Act.put, List.setIfInBounds_toArray, List.set_cons_zero, List.set_cons_succ]
        have HB2 := Lib.hid (HB.out.alloc HB.out.size (.cells #[] 30))
        have sb := HB.out.size
        have IC2 := Lib.hid (IC.out.alloc (.cells #[] 30))
        have lc := IC.out.lt
        have IF2 := Lib.hid (IF.out.alloc (.cells #[] 30))
        have lf := IF.out.lt
        have OA2 := Lib.hid (own_empty W68 30 (base := w3.heap.size) sb)
        have na : w3.heap.size ≤ W68.heap.size := sb
        have nac : W68.heap.size ≠ gc := by omega
        have naf : W68.heap.size ≠ gf := by omega
        have la2 : W68.heap.size < (W68.alloc (.cells #[] 30)).heap.size := by simp
        generalize W68.alloc (.cells #[] 30) = W69 at *
        clear HB sb IC lc IF lf
        generalize W68.heap.size = ga at *
        have HB := HB2
        clear HB2
        have OA := OA2
        clear OA2
        have IC := IC2
        clear IC2
        have IF := IF2
        clear IF2
        have la := la2
        clear la2
        refine wpAnyH_ready (rs := [2]) (by kernel_rfl) (by simp) ?_
        refine AllReadyH.cons (o := { dst := some 24, op := .call { callee := .builtin .append, args := #[.tmp 22, .tmp 23], argTypes := #[22, 22] }, type := _, pos := _, after := _, guard := _ }) rfl (fun K hK => ?_) AllReadyH.nil
        refine Law.step_append_seq _ w3.heap.size 22 rfl (.tmp 22) (.tmp 23) rfl HE.out (.slice (some ⟨ga, 0, none⟩) 0 0) 0 [] (by simp [Act.eval]) (by exact OA.out) 0 w3.heap.size A zs.length c (flatS zs) (by simp [Act.eval]) (flatS_length zs) (HSQ.out.below HB.out) (flatS_one _) (by unfold maxLen; omega) (by omega) HB.out.size ?_
        intro v70 W70 own grow
        have hb2 : Below w3.heap.size w3 W70 := HB.out.grown grow HB.out.size (fun g hg => by have h9 : ga = g := Option.some.inj hg; omega)
        refine hK.out _ _ (HK.out _ hb2) (fun _ => ?_)
        clear hK K
        try simp only [Act.put, List.setIfInBounds_toArray, List.set_cons_zero, List.set_cons_succ]
        have OA2 : Hid (W70.ownsRow w3.heap.size 30 4 v70 zs.length (flatS zs)) := by show World.ownsRow _ _ _ _ _ _ _; simpa using own
        have HB2 := Lib.hid hb2
        have IC2 : Hid (Is W70 gc 30 #[.int .i64 x0, .int .i64 x1, .int .i64 x2, .int .u64 x3]) := (grow.block gc IC.out.lt (fun h => nac (Option.some.inj h).symm)).trans IC.out
        have IF2 : Hid (Is W70 gf 33 #[.int .i64 0, .int .i64 0, .int .i64 0]) := (grow.block gf IF.out.lt (fun h => naf (Option.some.inj h).symm)).trans IF.out
        obtain ⟨A4, c4, rfl, _⟩ := own_shape OA2.out
        clear own grow hb2 HB OA la IC nac IF naf
        have HB := HB2
        have OA := OA2
        clear HB2 OA2
        have IC := IC2
        clear IC2
        have IF := IF2
        clear IF2
        refine wpAnyH_ready (rs := [5]) (by kernel_rfl) (by simp) ?_
        refine AllReadyH.cons (o := { dst := some 27, op := .call { callee := .builtin .append, args := #[.tmp 24, .tmp 26], argTypes := #[22, 22] }, type := _, pos := _, after := _, guard := _ }) rfl (fun K hK => ?_) AllReadyH.nil
        refine Law.step_append_seq _ w3.heap.size 22 rfl (.tmp 24) (.tmp 26) rfl HE.out (.slice A4 zs.length c4) zs.length (flatS zs) (by simp [Act.eval]) (by exact OA.out) gc (gc + 1) (some ⟨gc, 0, none⟩) 1 1 (cellsS (x0, x1, x2, x3)) (by simp [Act.eval]) rfl (Is.seqS IC.out) (four_one _) (by unfold maxLen; omega) (by omega) HB.out.size ?_
        intro v71 W71 own grow
        have hb2 : Below w3.heap.size w3 W71 := HB.out.grown grow HB.out.size (fun g hg => (OA.out.lt g hg).1)
        refine hK.out _ _ (HK.out _ hb2) (fun _ => ?_)
        clear hK K
        try simp only [Act.put, List.setIfInBounds_toArray, List.set_cons_zero, List.set_cons_succ]
        have OA2 : Hid (W71.ownsRow w3.heap.size 30 4 v71 (zs.length + 1) (flatS (zs ++ [(x0, x1, x2, x3)]))) := by show World.ownsRow _ _ _ _ _ _ _; rw [flatS_snoc]; exact own
        have HB2 := Lib.hid hb2
        have IF2 : Hid (Is W71 gf 33 #[.int .i64 0, .int .i64 0, .int .i64 0]) := (grow.block gf IF.out.lt (fun h => own_ne OA.out IF.out (by decide) h.symm)).trans IF.out
        obtain ⟨A7, c7, rfl, _⟩ := own_shape OA2.out
        clear own grow hb2 HB OA IC IF
        have HB := HB2
        have OA := OA2
        clear HB2 OA2
        have IF := IF2
        clear IF2
        refine wpAnyH_ready (rs := [7]) (by kernel_rfl) (by simp) ?_
        refine AllReadyH.cons (o := { dst := some 29, op := .call { callee := .value (.func 13), args := #[.tmp 27, .tmp 28], argTypes := #[22, 23] }, type := _, pos := _, after := _, guard := _ }) rfl (fun K hK => ?_) AllReadyH.nil
        go_simp
        refine Calls.mono (HO.out A7 c7 W71 OA.out HB.out) ?_
        rintro e W72 ⟨rfl, hb1, hb2⟩
        go_wp2_with fail
        refine hK.out _ _ (HK.out _ hb2) (fun _ => ?_)
        clear hK K
        try simp only [Act.put, List.setIfInBounds_toArray, List.set_cons_zero, List.set_cons_succ]
        have HB2 := Lib.hid hb2
        have OA2 := Lib.hid (own_below OA.out hb1)
        have IF2 := Lib.hid (IF.out.below hb1 IF.out.lt)
        clear hb1 hb2 HB OA IF
        have HB := HB2
        have OA := OA2
        clear HB2 OA2
        have IF := IF2
        clear IF2
        refine wpAnyH_ready (rs := [9]) (by kernel_rfl) (by simp) ?_
        refine AllReadyH.cons (o := { dst := none, op := .store 33 (.tmp 8) (.tmp 29), type := _, pos := _, after := _, guard := _ }) rfl (fun K hK => ?_) AllReadyH.nil
        have c80 : W72.cell? ⟨gf, 0, none⟩ = some (.int .i64 0) := IF.out.cell' rfl
        have c81 : W72.cell? ⟨gf, 1, none⟩ = some (.int .i64 0) := IF.out.cell' rfl
        have c82 : W72.cell? ⟨gf, 2, none⟩ = some (.int .i64 0) := IF.out.cell' rfl
        have f80 := IF.out.frozen 0
        have f81 := IF.out.frozen 1
        have f82 := IF.out.frozen 2
        go_simp
        have hb2 := ((HB.out.setCell (p := ⟨gf, 0, none⟩) nf (.int .i64 P0)).setCell (p := ⟨gf, 1, none⟩) nf (.int .i64 P1)).setCell (p := ⟨gf, 2, none⟩) nf (.int .i64 (m' : Int))
        have if2 := ((IF.out.set 0 (.int .i64 P0) rfl).set 1 (.int .i64 P1) rfl).set 2 (.int .i64 (m' : Int)) rfl
        refine hK.out _ _ (HK.out _ hb2) (fun _ => ?_)
        clear hK K
        try simp only [Act.put, List.setIfInBounds_toArray, List.set_cons_zero, List.set_cons_succ]
        refine wpAnyH_done (by kernel_rfl) ?_ _
        go_wp2_with fail
        go_meet
        exact ⟨gf, rfl, if2, hb2⟩
      refine AllReadyH.cons (o := { dst := some 8, op := .alloc 33, type := _, pos := _, after := _, guard := _ }) rfl (fun K hK => ?_) AllReadyH.nil
      go_simp
      refine hK.out _ _ (HK.out _ (HB.out.alloc HB.out.size (.cells #[.int .i64 0, .int .i64 0, .int .i64 0] 33))) (fun _ => ?_)
      clear hK K
      try simp only [Act.put, List.setIfInBounds_toArray, List.set_cons_zero, List.set_cons_succ]
      have HB2 := Lib.hid (HB.out.alloc HB.out.size (.cells #[.int .i64 0, .int .i64 0, .int .i64 0] 33))
      have sb := HB.out.size
      have IF2 := Lib.hid (Is.new W0 33 #[.int .i64 0, .int .i64 0, .int .i64 0] rfl)
      have nf : w3.heap.size ≤ W0.heap.size := sb
      generalize W0.alloc (.cells #[.int .i64 0, .int .i64 0, .int .i64 0] 33) = W74 at *
      clear HB sb
      generalize W0.heap.size = gf at *
      have HB := HB2
      clear HB2
      have IF := IF2
      clear IF2
      refine wpAnyH_ready (rs := [0, 4]) (by kernel_rfl) (by simp) ?_
      refine AllReadyH.cons (o := { dst := some 22, op := .buildSlice 22 0 #[], type := _, pos := _, after := _, guard := _ }) rfl (fun K hK => ?_) ?_
      · go_simp
        refine hK.out _ _ (HK.out _ (HB.out.alloc HB.out.size (.cells #[] 30))) (fun _ => ?_)
        clear hK K
        try simp only [Act.put, List.setIfInBounds_toArray, List.set_cons_zero, List.set_cons_succ]
        have HB2 := Lib.hid (HB.out.alloc HB.out.size (.cells #[] 30))
        have sb := HB.out.size
        have IF2 := Lib.hid (IF.out.alloc (.cells #[] 30))
        have lf := IF.out.lt
        have OA2 := Lib.hid (own_empty W74 30 (base := w3.heap.size) sb)
        have na : w3.heap.size ≤ W74.heap.size := sb
        have naf : W74.heap.size ≠ gf := by omega
        have la2 : W74.heap.size < (W74.alloc (.cells #[] 30)).heap.size := by simp
        generalize W74.alloc (.cells #[] 30) = W75 at *
        clear HB sb IF lf
        generalize W74.heap.size = ga at *
        have HB := HB2
        clear HB2
        have OA := OA2
        clear OA2
        have IF := IF2
        clear IF2
        have la := la2
        clear la2
        refine wpAnyH_ready (rs := [2, 4]) (by kernel_rfl) (by simp) ?_
        refine AllReadyH.cons (o := { dst := some 24, op := .call { callee := .builtin .append, args := #[.tmp 22, .tmp 23], argTypes := #[22, 22] }, type := _, pos := _, after := _, guard := _ }) rfl (fun K hK => ?_) ?_
        · refine Law.step_append_seq _ w3.heap.size 22 rfl (.tmp 22) (.tmp 23) rfl HE.out (.slice (some ⟨ga, 0, none⟩) 0 0) 0 [] (by simp [Act.eval]) (by exact OA.out) 0 w3.heap.size A zs.length c (flatS zs) (by simp [Act.eval]) (flatS_length zs) (HSQ.out.below HB.out) (flatS_one _) (by unfold maxLen; omega) (by omega) HB.out.size ?_
          intro v76 W76 own grow
          have hb2 : Below w3.heap.size w3 W76 := HB.out.grown grow HB.out.size (fun g hg => by have h9 : ga = g := Option.some.inj hg; omega)
          refine hK.out _ _ (HK.out _ hb2) (fun _ => ?_)
          clear hK K
          try simp only [Act.put, List.setIfInBounds_toArray, List.set_cons_zero, List.set_cons_succ]
          have OA2 : Hid (W76.ownsRow w3.heap.size 30 4 v76 zs.length (flatS zs)) := by show World.ownsRow _ _ _ _ _ _ _; simpa using own
          have HB2 := Lib.hid hb2
          have IF2 : Hid (Is W76 gf 33 #[.int .i64 0, .int .i64 0, .int .i64 0]) := (grow.block gf IF.out.lt (fun h => naf (Option.some.inj h).symm)).trans IF.out
          obtain ⟨A4, c4, rfl, _⟩ := own_shape OA2.out
          clear own grow hb2 HB OA la IF naf
          have HB := HB2
          have OA := OA2
          clear HB2 OA2
          have IF := IF2
          clear IF2
          refine wpAnyH_ready (rs := [4]) (by kernel_rfl) (by simp) ?_
          refine AllReadyH.cons (o := { dst := some 26, op := .buildSlice 22 1 #[(0, .tmp 25)], type := _, pos := _, after := _, guard := _ }) rfl (fun K hK => ?_) AllReadyH.nil
          go_simp
          refine hK.out _ _ (HK.out _ (HB.out.alloc HB.out.size (.cells #[.int .i64 x0, .int .i64 x1, .int .i64 x2, .int .u64 x3] 30))) (fun _ => ?_)
          clear hK K
          try simp only [Act.put, List.setIfInBounds_toArray, List.set_cons_zero, List.set_cons_succ]
          have HB2 := Lib.hid (HB.out.alloc HB.out.size (.cells #[.int .i64 x0, .int .i64 x1, .int .i64 x2, .int .u64 x3] 30))
          have sb := HB.out.size
          have OA2 := Lib.hid (OA.out.alloc (.cells #[.int .i64 x0, .int .i64 x1, .int .i64 x2, .int .u64 x3] 30))
          have IF2 := Lib.hid (IF.out.alloc (.cells #[.int .i64 x0, .int .i64 x1, .int .i64 x2, .int .u64 x3] 30))
          have lf := IF.out.lt
          have IC2 := Lib.hid (Is.new W76 30 #[.int .i64 x0, .int .i64 x1, .int .i64 x2, .int .u64 x3] rfl)
          generalize W76.alloc (.cells #[.int .i64 x0, .int .i64 x1, .int .i64 x2, .int .u64 x3] 30) = W77 at *
          clear HB sb OA IF lf
          generalize W76.heap.size = gc at *
          have HB := HB2
          clear HB2
          have OA := OA2
          clear OA2
          have IC := IC2
          clear IC2
          have IF := IF2
          clear IF2
          refine wpAnyH_ready (rs := [5]) (by kernel_rfl) (by simp) ?_
          refine AllReadyH.cons (o := { dst := some 27, op := .call { callee := .builtin .append, args := #[.tmp 24, .tmp 26], argTypes := #[22, 22] }, type := _, pos := _, after := _, guard := _ }) rfl (fun K hK => ?_) AllReadyH.nil
          refine Law.step_append_seq _ w3.heap.size 22 rfl (.tmp 24) (.tmp 26) rfl HE.out (.slice A4 zs.length c4) zs.length (flatS zs) (by simp [Act.eval]) (by exact OA.out) gc (gc + 1) (some ⟨gc, 0, none⟩) 1 1 (cellsS (x0, x1, x2, x3)) (by simp [Act.eval]) rfl (Is.seqS IC.out) (four_one _) (by unfold maxLen; omega) (by omega) HB.out.size ?_
          intro v78 W78 own grow
          have hb2 : Below w3.heap.size w3 W78 := HB.out.grown grow HB.out.size (fun g hg => (OA.out.lt g hg).1)
          refine hK.out _ _ (HK.out _ hb2) (fun _ => ?_)
          clear hK K
          try simp only [Act.put, List.setIfInBounds_toArray, List.set_cons_zero, List.set_cons_succ]
          have OA2 : Hid (W78.ownsRow w3.heap.size 30 4 v78 (zs.length + 1) (flatS (zs ++ [(x0, x1, x2, x3)]))) := by show World.ownsRow _ _ _ _ _ _ _; rw [flatS_snoc]; exact own
          have HB2 := Lib.hid hb2
          have IF2 : Hid (Is W78 gf 33 #[.int .i64 0, .int .i64 0, .int .i64 0]) := (grow.block gf IF.out.lt (fun h => own_ne OA.out IF.out (by decide) h.symm)).trans IF.out
          obtain ⟨A7, c7, rfl, _⟩ := own_shape OA2.out
          clear own grow hb2 HB OA IC IF
          have HB := HB2
          have OA := OA2
          clear HB2 OA2
          have IF := IF2
          clear IF2
          refine wpAnyH_ready (rs := [7]) (by kernel_rfl) (by simp) ?_
          refine AllReadyH.cons (o := { dst := some 29, op := .call { callee := .value (.func 13), args := #[.tmp 27, .tmp 28], argTypes := #[22, 23] }, type := _, pos := _, after := _, guard := _ }) rfl (fun K hK => ?_) AllReadyH.nil
          go_simp
          refine Calls.mono (HO.out A7 c7 W78 OA.out HB.out) ?_
          rintro e W79 ⟨rfl, hb1, hb2⟩
          go_wp2_with fail
          refine hK.out _ _ (HK.out _ hb2) (fun _ => ?_)
          clear hK K
          try simp only [Act.put, List.setIfInBounds_toArray, List.set_cons_zero, List.set_cons_succ]
          have HB2 := Lib.hid hb2
          have OA2 := Lib.hid (own_below OA.out hb1)
          have IF2 := Lib.hid (IF.out.below hb1 IF.out.lt)
          clear hb1 hb2 HB OA IF
          have HB := HB2
          have OA := OA2
          clear HB2 OA2
          have IF := IF2
          clear IF2
          refine wpAnyH_ready (rs := [9]) (by kernel_rfl) (by simp) ?_
          refine AllReadyH.cons (o := { dst := none, op := .store 33 (.tmp 8) (.tmp 29), type := _, pos := _, after := _, guard := _ }) rfl (fun K hK => ?_) AllReadyH.nil
          have c80 : W79.cell? ⟨gf, 0, none⟩ = some (.int .i64 0) := IF.out.cell' rfl
          have c81 : W79.cell? ⟨gf, 1, none⟩ = some (.int .i64 0) := IF.out.cell' rfl
          have c82 : W79.cell? ⟨gf, 2, none⟩ = some (.int .i64 0) := IF.out.cell' rfl
          have f80 := IF.out.frozen 0
          have f81 := IF.out.frozen 1
          have f82 := IF.out.frozen 2
          go_simp
          have hb2 := ((HB.out.setCell (p := ⟨gf, 0, none⟩) nf (.int .i64 P0)).setCell (p := ⟨gf, 1, none⟩) nf (.int .i64 P1)).setCell (p := ⟨gf, 2, none⟩) nf (.int .i64 (m' : Int))
          have if2 := ((IF.out.set 0 (.int .i64 P0) rfl).set 1 (.int .i64 P1) rfl).set 2 (.int .i64 (m' : Int)) rfl
          refine hK.out _ _ (HK.out _ hb2) (fun _ => ?_)
          clear hK K
          try simp only [Act.put, List.setIfInBounds_toArray, List.set_cons_zero, List.set_cons_succ]
          refine wpAnyH_done (by kernel_rfl) ?_ _
          go_wp2_with fail
          go_meet
          exact ⟨gf, rfl, if2, hb2⟩
        refine AllReadyH.cons (o := { dst := some 26, op := .buildSlice 22 1 #[(0, .tmp 25)], type := _, pos := _, after := _, guard := _ }) rfl (fun K hK => ?_) AllReadyH.nil
        go_simp
        refine hK.out _ _ (HK.out _ (HB.out.alloc HB.out.size (.cells #[.int .i64 x0, .int .i64 x1, .int .i64 x2, .int .u64 x3] 30))) (fun _ => ?_)
        clear hK K
        try simp only [Act.put, List.setIfInBounds_toArray, List.set_cons_zero, List.set_cons_succ]
        have HB2 := Lib.hid (HB.out.alloc HB.out.size (.cells #[.int .i64 x0, .int .i64 x1, .int .i64 x2, .int .u64 x3] 30))
        have sb := HB.out.size
        have OA2 := Lib.hid (OA.out.alloc (.cells #[.int .i64 x0, .int .i64 x1, .int .i64 x2, .int .u64 x3] 30))
        have IF2 := Lib.hid (IF.out.alloc (.cells #[.int .i64 x0, .int .i64 x1, .int .i64 x2, .int .u64 x3] 30))
        have lf := IF.out.lt
        have IC2 := Lib.hid (Is.new W75 30 #[.int .i64 x0, .int .i64 x1, .int .i64 x2, .int .u64 x3] rfl)
        have nac : ga ≠ W75.heap.size := by omega
        have la2 : ga < (W75.alloc (.cells #[.int .i64 x0, .int .i64 x1, .int .i64 x2, .int .u64 x3] 30)).heap.size := by simp; omega
        generalize W75.alloc (.cells #[.int .i64 x0, .int .i64 x1, .int .i64 x2, .int .u64 x3] 30) = W81 at *
        clear HB sb OA IF lf la
        generalize W75.heap.size = gc at *
        have HB := HB2
        clear HB2
        have OA := OA2
        clear OA2
        have IC := IC2
        clear IC2
        have IF := IF2
        clear IF2
        have la := la2
        clear la2
        refine wpAnyH_ready (rs := [2]) (by kernel_rfl) (by simp) ?_
        refine AllReadyH.cons (o := { dst := some 24, op := .call { callee := .builtin .append, args := #[.tmp 22, .tmp 23], argTypes := #[22, 22] }, type := _, pos := _, after := _, guard := _ }) rfl (fun K hK => ?_) AllReadyH.nil
        refine Law.step_append_seq _ w3.heap.size 22 rfl (.tmp 22) (.tmp 23) rfl HE.out (.slice (some ⟨ga, 0, none⟩) 0 0) 0 [] (by simp [Act.eval]) (by exact OA.out) 0 w3.heap.size A zs.length c (flatS zs) (by simp [Act.eval]) (flatS_length zs) (HSQ.out.below HB.out) (flatS_one _) (by unfold maxLen; omega) (by omega) HB.out.size ?_
        intro v82 W82 own grow
        have hb2 : Below w3.heap.size w3 W82 := HB.out.grown grow HB.out.size (fun g hg => by have h9 : ga = g := Option.some.inj hg; omega)
        refine hK.out _ _ (HK.out _ hb2) (fun _ => ?_)
        clear hK K
        try simp only [Act.put, List.setIfInBounds_toArray, List.set_cons_zero, List.set_cons_succ]
        have OA2 : Hid (W82.ownsRow w3.heap.size 30 4 v82 zs.length (flatS zs)) := by show World.ownsRow _ _ _ _ _ _ _; simpa using own
        have HB2 := Lib.hid hb2
        have IC2 : Hid (Is W82 gc 30 #[.int .i64 x0, .int .i64 x1, .int .i64 x2, .int .u64 x3]) := (grow.block gc IC.out.lt (fun h => nac (Option.some.inj h).symm)).trans IC.out
        have IF2 : Hid (Is W82 gf 33 #[.int .i64 0, .int .i64 0, .int .i64 0]) := (grow.block gf IF.out.lt (fun h => naf (Option.some.inj h).symm)).trans IF.out
        obtain ⟨A4, c4, rfl, _⟩ := own_shape OA2.out
        clear own grow hb2 HB OA la IC nac IF naf
        have HB := HB2
        have OA := OA2
        clear HB2 OA2
        have IC := IC2
        clear IC2
        have IF := IF2
        clear IF2
        refine wpAnyH_ready (rs := [5]) (by kernel_rfl) (by simp) ?_
        refine AllReadyH.cons (o := { dst := some 27, op := .call { callee := .builtin .append, args := #[.tmp 24, .tmp 26], argTypes := #[22, 22] }, type := _, pos := _, after := _, guard := _ }) rfl (fun K hK => ?_) AllReadyH.nil
        refine Law.step_append_seq _ w3.heap.size 22 rfl (.tmp 24) (.tmp 26) rfl HE.out (.slice A4 zs.length c4) zs.length (flatS zs) (by simp [Act.eval]) (by exact OA.out) gc (gc + 1) (some ⟨gc, 0, none⟩) 1 1 (cellsS (x0, x1, x2, x3)) (by simp [Act.eval]) rfl (Is.seqS IC.out) (four_one _) (by unfold maxLen; omega) (by omega) HB.out.size ?_
        intro v83 W83 own grow
        have hb2 : Below w3.heap.size w3 W83 := HB.out.grown grow HB.out.size (fun g hg => (OA.out.lt g hg).1)
        refine hK.out _ _ (HK.out _ hb2) (fun _ => ?_)
        clear hK K
        try simp only [Act.put, List.setIfInBounds_toArray, List.set_cons_zero, List.set_cons_succ]
        have OA2 : Hid (W83.ownsRow w3.heap.size 30 4 v83 (zs.length + 1) (flatS (zs ++ [(x0, x1, x2, x3)]))) := by show World.ownsRow _ _ _ _ _ _ _; rw [flatS_snoc]; exact own
        have HB2 := Lib.hid hb2
        have IF2 : Hid (Is W83 gf 33 #[.int .i64 0, .int .i64 0, .int .i64 0]) := (grow.block gf IF.out.lt (fun h => own_ne OA.out IF.out (by decide) h.symm)).trans IF.out
        obtain ⟨A7, c7, rfl, _⟩ := own_shape OA2.out
        clear own grow hb2 HB OA IC IF
        have HB := HB2
        have OA := OA2
        clear HB2 OA2
        have IF := IF2
        clear IF2
        refine wpAnyH_ready (rs := [7]) (by kernel_rfl) (by simp) ?_
        refine AllReadyH.cons (o := { dst := some 29, op := .call { callee := .value (.func 13), args := #[.tmp 27, .tmp 28], argTypes := #[22, 23] }, type := _, pos := _, after := _, guard := _ }) rfl (fun K hK => ?_) AllReadyH.nil
        go_simp
        refine Calls.mono (HO.out A7 c7 W83 OA.out HB.out) ?_
        rintro e W84 ⟨rfl, hb1, hb2⟩
        go_wp2_with fail
        refine hK.out _ _ (HK.out _ hb2) (fun _ => ?_)
        clear hK K
        try simp only [Act.put, List.setIfInBounds_toArray, List.set_cons_zero, List.set_cons_succ]
        have HB2 := Lib.hid hb2
        have OA2 := Lib.hid (own_below OA.out hb1)
        have IF2 := Lib.hid (IF.out.below hb1 IF.out.lt)
        clear hb1 hb2 HB OA IF
        have HB := HB2
        have OA := OA2
        clear HB2 OA2
        have IF := IF2
        clear IF2
        refine wpAnyH_ready (rs := [9]) (by kernel_rfl) (by simp) ?_
        refine AllReadyH.cons (o := { dst := none, op := .store 33 (.tmp 8) (.tmp 29), type := _, pos := _, after := _, guard := _ }) rfl (fun K hK => ?_) AllReadyH.nil
        have c80 : W84.cell? ⟨gf, 0, none⟩ = some (.int .i64 0) := IF.out.cell' rfl
        have c81 : W84.cell? ⟨gf, 1, none⟩ = some (.int .i64 0) := IF.out.cell' rfl
        have c82 : W84.cell? ⟨gf, 2, none⟩ = some (.int .i64 0) := IF.out.cell' rfl
        have f80 := IF.out.frozen 0
        have f81 := IF.out.frozen 1
        have f82 := IF.out.frozen 2
        go_simp
        have hb2 := ((HB.out.setCell (p := ⟨gf, 0, none⟩) nf (.int .i64 P0)).setCell (p := ⟨gf, 1, none⟩) nf (.int .i64 P1)).setCell (p := ⟨gf, 2, none⟩) nf (.int .i64 (m' : Int))
        have if2 := ((IF.out.set 0 (.int .i64 P0) rfl).set 1 (.int .i64 P1) rfl).set 2 (.int .i64 (m' : Int)) rfl
        refine hK.out _ _ (HK.out _ hb2) (fun _ => ?_)
        clear hK K
        try simp only [Act.put, List.setIfInBounds_toArray, List.set_cons_zero, List.set_cons_succ]
        refine wpAnyH_done (by kernel_rfl) ?_ _
        go_wp2_with fail
        go_meet
        exact ⟨gf, rfl, if2, hb2⟩
      refine AllReadyH.cons (o := { dst := some 26, op := .buildSlice 22 1 #[(0, .tmp 25)], type := _, pos := _, after := _, guard := _ }) rfl (fun K hK => ?_) AllReadyH.nil
      go_simp
      refine hK.out _ _ (HK.out _ (HB.out.alloc HB.out.size (.cells #[.int .i64 x0, .int .i64 x1, .int .i64 x2, .int .u64 x3] 30))) (fun _ => ?_)
      clear hK K
      try simp only [Act.put, List.setIfInBounds_toArray, List.set_cons_zero, List.set_cons_succ]
      have HB2 := Lib.hid (HB.out.alloc HB.out.size (.cells #[.int .i64 x0, .int .i64 x1, .int .i64 x2, .int .u64 x3] 30))
      have sb := HB.out.size
      have IF2 := Lib.hid (IF.out.alloc (.cells #[.int .i64 x0, .int .i64 x1, .int .i64 x2, .int .u64 x3] 30))
      have lf := IF.out.lt
      have IC2 := Lib.hid (Is.new W74 30 #[.int .i64 x0, .int .i64 x1, .int .i64 x2, .int .u64 x3] rfl)
      generalize W74.alloc (.cells #[.int .i64 x0, .int .i64 x1, .int .i64 x2, .int .u64 x3] 30) = W86 at *
      clear HB sb IF lf
      generalize W74.heap.size = gc at *
      have HB := HB2
      clear HB2
      have IC := IC2
      clear IC2
      have IF := IF2
      clear IF2
      refine wpAnyH_ready (rs := [0]) (by kernel_rfl) (by simp) ?_
      refine AllReadyH.cons (o := { dst := some 22, op := .buildSlice 22 0 #[], type := _, pos := _, after := _, guard := _ }) rfl (fun K hK => ?_) AllReadyH.nil
      go_simp
      refine hK.out _ _ (HK.out _ (HB.out.alloc HB.out.size (.cells #[] 30))) (fun _ => ?_)
      clear hK K
      try simp only [Act.put, List.setIfInBounds_toArray, List.set_cons_zero, List.set_cons_succ]
      have HB2 := Lib.hid (HB.out.alloc HB.out.size (.cells #[] 30))
      have sb := HB.out.size
      have IC2 := Lib.hid (IC.out.alloc (.cells #[] 30))
      have lc := IC.out.lt
      have IF2 := Lib.hid (IF.out.alloc (.cells #[] 30))
      have lf := IF.out.lt
      have OA2 := Lib.hid (own_empty W86 30 (base := w3.heap.size) sb)
      have na : w3.heap.size ≤ W86.heap.size := sb
      have nac : W86.heap.size ≠ gc := by omega
      have naf : W86.heap.size ≠ gf := by omega
      have la2 : W86.heap.size < (W86.alloc (.cells #[] 30)).heap.size := by simp
      generalize W86.alloc (.cells #[] 30) = W87 at *
      clear HB sb IC lc IF lf
      generalize W86.heap.size = ga at *
      have HB := HB2
      clear HB2
      have OA := OA2
      clear OA2
      have IC := IC2
      clear IC2
      have IF := IF2
      clear IF2
      have la := la2
      clear la2
      refine wpAnyH_ready (rs := [2]) (by kernel_rfl) (by simp) ?_
      refine AllReadyH.cons (o := { dst := some 24, op := .call { callee := .builtin .append, args := #[.tmp 22, .tmp 23], argTypes := #[22, 22] }, type := _, pos := _, after := _, guard := _ }) rfl (fun K hK => ?_) AllReadyH.nil
      refine Law.step_append_seq _ w3.heap.size 22 rfl (.tmp 22) (.tmp 23) rfl HE.out (.slice (some ⟨ga, 0, none⟩) 0 0) 0 [] (by simp [Act.eval]) (by exact OA.out) 0 w3.heap.size A zs.length c (flatS zs) (by simp [Act.eval]) (flatS_length zs) (HSQ.out.below HB.out) (flatS_one _) (by unfold maxLen; omega) (by omega) HB.out.size ?_
      intro v88 W88 own grow
      have hb2 : Below w3.heap.size w3 W88 := HB.out.grown grow HB.out.size (fun g hg => by have h9 : ga = g := Option.some.inj hg; omega)
      refine hK.out _ _ (HK.out _ hb2) (fun _ => ?_)
      clear hK K
      try simp only [Act.put, List.setIfInBounds_toArray, List.set_cons_zero, List.set_cons_succ]
      have OA2 : Hid (W88.ownsRow w3.heap.size 30 4 v88 zs.length (flatS zs)) := by show World.ownsRow _ _ _ _ _ _ _; simpa using own
      have HB2 := Lib.hid hb2
      have IC2 : Hid (Is W88 gc 30 #[.int .i64 x0, .int .i64 x1, .int .i64 x2, .int .u64 x3]) := (grow.block gc IC.out.lt (fun h => nac (Option.some.inj h).symm)).trans IC.out
      have IF2 : Hid (Is W88 gf 33 #[.int .i64 0, .int .i64 0, .int .i64 0]) := (grow.block gf IF.out.lt (fun h => naf (Option.some.inj h).symm)).trans IF.out
      obtain ⟨A4, c4, rfl, _⟩ := own_shape OA2.out
      clear own grow hb2 HB OA la IC nac IF naf
      have HB := HB2
      have OA := OA2
      clear HB2 OA2
      have IC := IC2
      clear IC2
      have IF := IF2
      clear IF2
      refine wpAnyH_ready (rs := [5]) (by kernel_rfl) (by simp) ?_
      refine AllReadyH.cons (o := { dst := some 27, op := .call { callee := .builtin .append, args := #[.tmp 24, .tmp 26], argTypes := #[22, 22] }, type := _, pos := _, after := _, guard := _ }) rfl (fun K hK => ?_) AllReadyH.nil
      refine Law.step_append_seq _ w3.heap.size 22 rfl (.tmp 24) (.tmp 26) rfl HE.out (.slice A4 zs.length c4) zs.length (flatS zs) (by simp [Act.eval]) (by exact OA.out) gc (gc + 1) (some ⟨gc, 0, none⟩) 1 1 (cellsS (x0, x1, x2, x3)) (by simp [Act.eval]) rfl (Is.seqS IC.out) (four_one _) (by unfold maxLen; omega) (by omega) HB.out.size ?_
      intro v89 W89 own grow
      have hb2 : Below w3.heap.size w3 W89 := HB.out.grown grow HB.out.size (fun g hg => (OA.out.lt g hg).1)
      refine hK.out _ _ (HK.out _ hb2) (fun _ => ?_)
      clear hK K
      try simp only [Act.put, List.setIfInBounds_toArray, List.set_cons_zero, List.set_cons_succ]
      have OA2 : Hid (W89.ownsRow w3.heap.size 30 4 v89 (zs.length + 1) (flatS (zs ++ [(x0, x1, x2, x3)]))) := by show World.ownsRow _ _ _ _ _ _ _; rw [flatS_snoc]; exact own
      have HB2 := Lib.hid hb2
      have IF2 : Hid (Is W89 gf 33 #[.int .i64 0, .int .i64 0, .int .i64 0]) := (grow.block gf IF.out.lt (fun h => own_ne OA.out IF.out (by decide) h.symm)).trans IF.out
      obtain ⟨A7, c7, rfl, _⟩ := own_shape OA2.out
      clear own grow hb2 HB OA IC IF
      have HB := HB2
      have OA := OA2
      clear HB2 OA2
      have IF := IF2
      clear IF2
      refine wpAnyH_ready (rs := [7]) (by kernel_rfl) (by simp) ?_
      refine AllReadyH.cons (o := { dst := some 29, op := .call { callee := .value (.func 13), args := #[.tmp 27, .tmp 28], argTypes := #[22, 23] }, type := _, pos := _, after := _, guard := _ }) rfl (fun K hK => ?_) AllReadyH.nil
      go_simp
      refine Calls.mono (HO.out A7 c7 W89 OA.out HB.out) ?_
      rintro e W90 ⟨rfl, hb1, hb2⟩
      go_wp2_with fail
      refine hK.out _ _ (HK.out _ hb2) (fun _ => ?_)
      clear hK K
      try simp only [Act.put, List.setIfInBounds_toArray, List.set_cons_zero, List.set_cons_succ]
      have HB2 := Lib.hid hb2
      have OA2 := Lib.hid (own_below OA.out hb1)
      have IF2 := Lib.hid (IF.out.below hb1 IF.out.lt)
      clear hb1 hb2 HB OA IF
      have HB := HB2
      have OA := OA2
      clear HB2 OA2
      have IF := IF2
      clear IF2
      refine wpAnyH_ready (rs := [9]) (by kernel_rfl) (by simp) ?_
      refine AllReadyH.cons (o := { dst := none, op := .store 33 (.tmp 8) (.tmp 29), type := _, pos := _, after := _, guard := _ }) rfl (fun K hK => ?_) AllReadyH.nil
      have c80 : W90.cell? ⟨gf, 0, none⟩ = some (.int .i64 0) := IF.out.cell' rfl
      have c81 : W90.cell? ⟨gf, 1, none⟩ = some (.int .i64 0) := IF.out.cell' rfl
      have c82 : W90.cell? ⟨gf, 2, none⟩ = some (.int .i64 0) := IF.out.cell' rfl
      have f80 := IF.out.frozen 0
      have f81 := IF.out.frozen 1
      have f82 := IF.out.frozen 2
      go_simp
      have hb2 := ((HB.out.setCell (p := ⟨gf, 0, none⟩) nf (.int .i64 P0)).setCell (p := ⟨gf, 1, none⟩) nf (.int .i64 P1)).setCell (p := ⟨gf, 2, none⟩) nf (.int .i64 (m' : Int))
      have if2 := ((IF.out.set 0 (.int .i64 P0) rfl).set 1 (.int .i64 P1) rfl).set 2 (.int .i64 (m' : Int)) rfl
      refine hK.out _ _ (HK.out _ hb2) (fun _ => ?_)
      clear hK K
      try simp only [Act.put, List.setIfInBounds_toArray, List.set_cons_zero, List.set_cons_succ]
      refine wpAnyH_done (by kernel_rfl) ?_ _
      go_wp2_with fail
      go_meet
      exact ⟨gf, rfl, if2, hb2⟩
    case rest =>
      obtain ⟨g8, rfl, i8, b8⟩ := hcut
      have I8 := Lib.hid i8
      have J7 := Lib.hid (I7.out.below b8 I7.out.lt)
      have J4 := Lib.hid (I4.out.below b8 I4.out.lt)
      have S5 := Lib.hid ((HSQ.out.below b8).more b8.size)
      have B5 := Lib.hid (HB3.out.trans (b8.mono HB3.out.size))
      clear i8 b8 I7 I4 HSQ HB3 HO HK HE HP HP' K0
      have c43 : wc.cell? ⟨gs, 3, none⟩ = some (.int .u64 x3) := J4.out.cell' rfl
      by_cases hk : now < x3
      · have d1 : decide (x3 ≤ now) = false := by simp; omega
        obtain ⟨rfl, hA, hNo⟩ := HY.out hk
        have HA := Lib.hid hA
        have HNo := Lib.hid hNo
        clear hA hNo HY HN
        go_wp2_with fail
        go_loopw [9, 10] (fun mo i wr => ∃ j : Nat, j ≤ zs.length ∧ i = .int .i64 j ∧ mo = .bool (allB (x0, x1, x2, x3) (live now (zs.take j))) ∧ Below wc.heap.size wc wr) (fun _ i _ => zs.length - (intOf i).toNat)
        case atStart => exact ⟨0, Nat.zero_le _, rfl, rfl, Below.refl _ _⟩
        case round =>
          obtain ⟨j, hj, rfl, rfl, hB⟩ := hrel
          have HB := Lib.hid hB
          have K4 := Lib.hid (J4.out.below hB J4.out.lt)
          have K7 := Lib.hid (J7.out.below hB J7.out.lt)
          have K8 := Lib.hid (I8.out.below hB I8.out.lt)
          clear hB c43
          by_cases hlt : j < zs.length
          · obtain ⟨p, off, rfl, _, hp, q0, q1, q2, q3⟩ := (S5.out.below HB.out).ses hlt
            have HT2 : Hid (live now (zs.take (j + 1)) = if now < zs[j].2.2.2 then live now (zs.take j) ++ [zs[j]] else live now (zs.take j)) := by show _ = _; rw [List.take_succ_eq_append_getElem hlt, live_snoc]
            generalize live now (zs.take j) = os at *
            generalize zs[j] = q at *
            obtain ⟨y0, y1, y2, y3⟩ := q
            simp only at q0 q1 q2 q3 HT2
            have HAS := Lib.hid (allB_snoc (x0, x1, x2, x3) os (y0, y1, y2, y3))
            generalize hae : allB (x0, x1, x2, x3) os = b at *
            have HAE := Lib.hid hae
            clear hae
            have k0 : wr.cell? ⟨gs, 0, none⟩ = some (.int .i64 x0) := K4.out.cell' rfl
            have k1 : wr.cell? ⟨gs, 1, none⟩ = some (.int .i64 x1) := K4.out.cell' rfl
            have k2 : wr.cell? ⟨gs, 2, none⟩ = some (.int .i64 x2) := K4.out.cell' rfl
            have k3 : wr.cell? ⟨gs, 3, none⟩ = some (.int .u64 x3) := K4.out.cell' rfl
            have sb := HB.out.size
            go_wp2_with fail
            have z0 := cell_regrown q0
            have z1 := cell_regrown q1
            have z2 := cell_regrown q2
            have z3 := cell_regrown q3
            have y0' := cell_regrown k0
            have y1' := cell_regrown k1
            have y2' := cell_regrown k2
            have y3' := cell_regrown k3
            clear k0 k1 k2 k3 q0 q1 q2 q3
            by_cases hy : now < y3
            · have d2 : decide (now < y3) = true := by simpa using hy
              have HX : Hid (live now (zs.take (j + 1)) = os ++ [(y0, y1, y2, y3)]) := by show _ = _; rw [HT2.out, if_pos hy]
              cases hb : better (x0, x1, x2, x3) (y0, y1, y2, y3) with
              | true =>
                have CB := Lib.hid (betterX x0 x1 x2 x3 y0 y1 y2 y3 true hb)
                refine wp_region_quiet_below (by kernel_rfl) (by kernel_rfl) ?_
                repeat (go_big_quiet_step ((go_at_call 16; with_reducible exact Calls.regrown_of (CB.out _))))
                refine wpQuiet_nil ?_
                intro _ hw'
                obtain ⟨⟨nq, osq⟩, hw''⟩ := hw'
                subst hw''
                have B6 := Lib.hid (HB.out.trans ((below_regrown wr nq osq).mono sb))
                clear z0 z1 z2 z3 y0' y1' y2' y3'
                generalize Go.Sort.grow (redrawn wr nq) osq = w8 at *
                go_wp2_with fail
                go_roundw
                case rel => exact ⟨j + 1, by omega, by go_num, by rw [HX.out, HAS.out, hb, Bool.and_true], B6.out⟩
                case measure => simp [intOf]; omega
              | false =>
                have CB := Lib.hid (betterX x0 x1 x2 x3 y0 y1 y2 y3 false hb)
                refine wp_region_quiet_below (by kernel_rfl) (by kernel_rfl) ?_
                repeat (go_big_quiet_step ((go_at_call 16; with_reducible exact Calls.regrown_of (CB.out _))))
                refine wpQuiet_nil ?_
                intro _ hw'
                obtain ⟨⟨nq, osq⟩, hw''⟩ := hw'
                subst hw''
                have B6 := Lib.hid (HB.out.trans ((below_regrown wr nq osq).mono sb))
                clear z0 z1 z2 z3 y0' y1' y2' y3'
                generalize Go.Sort.grow (redrawn wr nq) osq = w8 at *
                go_wp2_with fail
                go_roundw
                case rel => exact ⟨j + 1, by omega, by go_num, by rw [HX.out, HAS.out, hb, Bool.and_false], B6.out⟩
                case measure => simp [intOf]; omega
            · have d2 : decide (now < y3) = false := by simpa using hy
              have HX : Hid (live now (zs.take (j + 1)) = os) := by show _ = _; rw [HT2.out, if_neg hy]
              refine wp_region_quiet_below (by kernel_rfl) (by kernel_rfl) ?_
              repeat (go_big_quiet_step (fail))
              refine wpQuiet_nil ?_
              intro _ hw'
              obtain ⟨⟨nq, osq⟩, hw''⟩ := hw'
              subst hw''
              have B6 := Lib.hid (HB.out.trans ((below_regrown wr nq osq).mono sb))
              clear z0 z1 z2 z3 y0' y1' y2' y3'
              generalize Go.Sort.grow (redrawn wr nq) osq = w8 at *
              go_wp2_with fail
              go_roundw
              case rel => exact ⟨j + 1, by omega, by go_num, by rw [HX.out, HAE.out], B6.out⟩
              case measure => simp [intOf]; omega
          · rw [List.take_of_length_le (by omega)]
            have B6 := Lib.hid (B5.out.trans (HB.out.mono B5.out.size))
            have k1 : wr.cell? ⟨gs, 1, none⟩ = some (.int .i64 x1) := K4.out.cell' rfl
            have k2 : wr.cell? ⟨gs, 2, none⟩ = some (.int .i64 x2) := K4.out.cell' rfl
            have e0 : wr.cell? ⟨g7, 0, none⟩ = some (.int .i64 Q0) := K7.out.cell' rfl
            have e1 : wr.cell? ⟨g7, 1, none⟩ = some (.int .i64 Q1) := K7.out.cell' rfl
            have e2 : wr.cell? ⟨g7, 2, none⟩ = some (.int .i64 (m : Int)) := K7.out.cell' rfl
            have u0 : wr.cell? ⟨g8, 0, none⟩ = some (.int .i64 P0) := K8.out.cell' rfl
            have u1 : wr.cell? ⟨g8, 1, none⟩ = some (.int .i64 P1) := K8.out.cell' rfl
            have u2 : wr.cell? ⟨g8, 2, none⟩ = some (.int .i64 ((m : Int) + 1)) := K8.out.cell' rfl
            clear K4 K7 K8 HB J4 J7 I8 S5 B5
            cases ha : allB (x0, x1, x2, x3) (live now zs) with
            | true =>
              obtain ⟨rfl, rfl⟩ := HA.out ha
              clear HA HNo ha
              go_wp2_with fail
              go_ret
              exact ⟨rfl, B6.out⟩
            | false =>
              obtain ⟨rfl, rfl⟩ := HNo.out ha
              clear HA HNo ha
              go_wp2_with fail
              go_ret
              exact ⟨rfl, B6.out⟩
      · have d1 : decide (x3 ≤ now) = true := by simp; omega
        obtain ⟨rfl, rfl, rfl⟩ := HN.out (by omega)
        have e0 : wc.cell? ⟨g7, 0, none⟩ = some (.int .i64 P0) := J7.out.cell' rfl
        have e1 : wc.cell? ⟨g7, 1, none⟩ = some (.int .i64 P1) := J7.out.cell' rfl
        have e2 : wc.cell? ⟨g7, 2, none⟩ = some (.int .i64 (m' : Int)) := J7.out.cell' rfl
        have u0 : wc.cell? ⟨g8, 0, none⟩ = some (.int .i64 P0) := I8.out.cell' rfl
        have u1 : wc.cell? ⟨g8, 1, none⟩ = some (.int .i64 P1) := I8.out.cell' rfl
        have u2 : wc.cell? ⟨g8, 2, none⟩ = some (.int .i64 (m' : Int)) := I8.out.cell' rfl
        clear HY HN
        go_wp2_with fail
        go_ret
        exact ⟨rfl, B5.out⟩

set_option maxRecDepth 100000 in
theorem lifted (os : Os) (started : os.Started) (H : Type) (enc : TypeId × Value → H) :
    ReturnsInHanded {} Try.checked os 6 .any (Rows.aggrOneSpec.pre6 enc Try.prog Try.f6 Rows.aggrOneRow.domain false) (Rows.aggrOneSpec.post enc Try.prog Try.f6 false true false false) := by
  refine returnsInHanded_of_change (C := Try.checked) own started (by kernel_rfl) Try.func6
    (ChangeSpec.witness6 (enc := enc) (C := Try.checked) false ⟨#[], #[.slice none 0 0, Law.V (0, 0, 0, 0), .int .u64 0], []⟩ 8 (by kernel_rfl) (by kernel_rfl) (by kernel_rfl) (by kernel_rfl)) ?_
  intro W base args ds gs before hval0 hW hcnd _
  have hval : ∀ (j : Nat) t v, Try.f6.params[j]? = some t → args[j]? = some v → Value.okWide Try.prog W .any base t v := hval0
  have hW' := hW
  obtain ⟨p, q, hA0, hV, rfl, hfz, hnd⟩ := hW
  have hA : DataW.TrodAll enc Try.prog W 0 (fun _ => true) true Try.f6.params.toList args.toList ds p := hA0
  rw [Try.params6] at hA hval
  obtain ⟨v0, vs0, d0, ds0, p0, q0, hargs, rfl, rfl, h0, r0⟩ := trodAll_cons hA
  obtain ⟨v1, vs1, d1, ds1, p1, q1, rfl, rfl, rfl, h1, r1⟩ := trodAll_cons r0
  obtain ⟨v2, vs2, d2, ds2, p2, q2, rfl, rfl, rfl, h2, r2⟩ := trodAll_cons r1
  obtain ⟨rfl, rfl, rfl⟩ := trodAll_nil r2
  obtain rfl : args = #[v0, v1, v2] := by cases args; simp_all
  obtain ⟨A, c, l, rfl, hs, hl⟩ := Law.open_sess Try.underlying22 Try.underlying30 (by kernel_rfl) rfl rfl rfl rfl (by kernel_rfl) (by kernel_rfl) (by kernel_rfl) (by kernel_rfl) (by kernel_rfl) (by kernel_rfl) (by kernel_rfl) (by kernel_rfl) (hval 0 22 v0 rfl rfl) h0
  obtain ⟨s, rfl⟩ := open_one (hval 1 30 v1 rfl rfl) h1
  obtain ⟨a2, rfl, rfl, rfl, w2⟩ := open_int Try.underlying23 (hval 2 23 v2 rfl rfl) h2
  refine (walk l A c s a2 W hs hl).mono fun e W' ⟨he, bel⟩ => ?_
  subst he
  exact ⟨_, rfl, Law.post_law laidOut (by kernel_rfl) (by kernel_rfl) Try.underlying4 rfl (fun ds h => by match ds, h with | [_, _, _], _ => rfl) hW' bel⟩

theorem proved : Rows.AggrOneSaid :=
  OpenClaim.holds_of_wide 6 Try.f6 rfl rfl rfl rfl rfl rfl rfl ⟨rfl, rfl, rfl, rfl, rfl⟩ rfl rfl rfl rfl rfl (by kernel_rfl) Try.func6 (by kernel_rfl)
    (of_decide_eq_true (by kernel_rfl)) (by unfold Func.isWrapper; rw [if_neg (by decide +kernel)]; exact ⟨rfl, rfl⟩)
    (fun os started H enc _ => lifted os started H enc)
#print axioms proved
end Go.Proofs.Ytmcbjfmlncellaa.aggrOne
