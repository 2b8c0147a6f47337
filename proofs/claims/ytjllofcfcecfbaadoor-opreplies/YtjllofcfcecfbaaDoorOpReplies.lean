/-
  Any reply's words, and any presence's, are the document's.
-/
import Derived.Test.YtjllofcfcecfbaaDoorOpAwk
import Derived.Test.YtjllofcfcecfbaaDoorOpDecR
import Derived.Test.YtjllofcfcecfbaaDoorOpRefR
import Derived.ChangeAlike
namespace Go.Proofs.YtjllofcfcecfbaaDoor
open Go.RowKit Go.ChangeShapes Go.WideShapes Go.ChangeAt
attribute [local go_sem] Oper.semAt_some
namespace Opx
open Go.Law
theorem open_p3 {H : Type} {enc : TypeId × Value → H} {W : World} {base : Nat} {sp : Nat → Bool} {hd : Bool} {b0 : Nat} {v : Value} {d : DataW H} {p : List MemPlace}
    (hv : Value.okWide Tryd.prog W .any b0 38 v) (h : DataW.Trod enc Tryd.prog W base sp hd 38 v d p) : ∃ q : P3, v = .agg (cellsP3 q).toArray ∧ okP q := by
  obtain ⟨q, e, hg⟩ := open_struct cellsP3 Tryd.underlying38 decP3 hv h
  exact ⟨q, e, hg⟩
end Opx
namespace opReplies
open Go.Law Opx
set_option maxRecDepth 100000 in
set_option maxHeartbeats 4000000 in
theorem walk (q : RepW) (p : P3) (hp : okP p) (w : World) (hq : RepRaw q w) (hT : Tabs w) : Calls Tryd.prog 4 #[.agg q.box, .agg (cellsP3 p).toArray] w fun e w' => e = .returned (.bool true) ∧ Below w.heap.size w w' := by
  obtain ⟨err, A, cA, vs, E, cE, es, lost⟩ := q
  obtain ⟨pa, pb, pc⟩ := p
  obtain ⟨k1, k2, k3⟩ := hp
  simp only at k1 k2 k3
  have lv := hq.lv
  have le := hq.le
  unfold maxLen at lv le
  simp only at lv le
  show Calls _ _ #[_, .agg #[.int .i64 pa, .int .i64 pb, .int .i64 pc]] _ _
  have b1 := (Below.refl w.heap.size w).alloc (Nat.le_refl _) (.cells (RepW.box ⟨err, A, cA, vs, E, cE, es, lost⟩) 36)
  have b2 := b1.alloc (by simp) (.cells #[.int .i64 pa, .int .i64 pb, .int .i64 pc] 38)
  have HX := Lib.hid (show Is ((w.alloc (.cells (RepW.box ⟨err, A, cA, vs, E, cE, es, lost⟩) 36)).alloc (.cells #[.int .i64 pa, .int .i64 pb, .int .i64 pc] 38)) w.heap.size 36 (RepW.box ⟨err, A, cA, vs, E, cE, es, lost⟩) from (Is.new w _ _ rfl).alloc _)
  have HY := Lib.hid (show Is ((w.alloc (.cells (RepW.box ⟨err, A, cA, vs, E, cE, es, lost⟩) 36)).alloc (.cells #[.int .i64 pa, .int .i64 pb, .int .i64 pc] 38)) (w.heap.size + 1) 38 #[.int .i64 pa, .int .i64 pb, .int .i64 pc] from Is.new _ _ _ (by simp))
  have HIN := Lib.hid (hq.below b2)
  have HB := Lib.hid b2
  have HTb := Lib.hid (hT.below b2)
  clear hq hT b1 b2
  go_enter Tryd.func4, Tryd.ntmps4
  go_wp2_with fail
  generalize ((w.alloc (.cells (RepW.box ⟨err, A, cA, vs, E, cE, es, lost⟩) 36)).alloc (.cells #[.int .i64 pa, .int .i64 pb, .int .i64 pc] 38)) = w1 at *
  refine (awake w1 HTb.out).mono ?_
  rintro e w2 ⟨rfl, b2⟩
  have HX2 := Lib.hid (HX.out.below b2 HX.out.lt)
  have HY2 := Lib.hid (HY.out.below b2 HY.out.lt)
  have HB2 := Lib.hid (HB.out.trans (b2.mono HB.out.size))
  have HT2 := Lib.hid (HTb.out.below b2)
  have HI2 := Lib.hid (HIN.out.below b2)
  clear b2 HX HY HB HTb HIN
  have x0 : w2.cell? ⟨w.heap.size, 0, none⟩ = some (.int .i64 err) := HX2.out.cell' rfl
  have x1 : w2.cell? ⟨w.heap.size, 1, none⟩ = some (.slice A vs.length cA) := HX2.out.cell' rfl
  have x2 : w2.cell? ⟨w.heap.size, 2, none⟩ = some (.slice E es.length cE) := HX2.out.cell' rfl
  have x3 : w2.cell? ⟨w.heap.size, 3, none⟩ = some (.bool lost) := HX2.out.cell' rfl
  have y0 : w2.cell? ⟨w.heap.size + 1, 0, none⟩ = some (.int .i64 pa) := HY2.out.cell' rfl
  have y1 : w2.cell? ⟨w.heap.size + 1, 1, none⟩ = some (.int .i64 pb) := HY2.out.cell' rfl
  have y2 : w2.cell? ⟨w.heap.size + 1, 2, none⟩ = some (.int .i64 pc) := HY2.out.cell' rfl
  have lx := HX2.out.lt
  have ly := HY2.out.lt
  by_cases h1 : 60 < vs.length
  · have d1 : decide ((60 : Int) < (vs.length : Int)) = true := by simp; omega
    go_wp2_with fail
    refine (awake w2 HT2.out).mono ?_
    rintro e w3 ⟨rfl, b3⟩
    have HB3 := Lib.hid (HB2.out.trans (b3.mono HB2.out.size))
    clear b3
    go_wp2_with fail
    go_ret
    exact ⟨rfl, HB3.out⟩
  · have d1 : decide ((60 : Int) < (vs.length : Int)) = false := by simp; omega
    by_cases h2 : 60 < es.length
    · have d2 : decide ((60 : Int) < (es.length : Int)) = true := by simp; omega
      go_wp2_with fail
      refine (awake w2 HT2.out).mono ?_
      rintro e w3 ⟨rfl, b3⟩
      have HB3 := Lib.hid (HB2.out.trans (b3.mono HB2.out.size))
      clear b3
      go_wp2_with fail
      go_ret
      exact ⟨rfl, HB3.out⟩
    · have d2 : decide ((60 : Int) < (es.length : Int)) = false := by simp; omega
      go_wp2_with fail
      go_loop [5] (fun i => ∃ j : Nat, j ≤ es.length ∧ i = .int .i64 j ∧ ∀ e ∈ es.take j, e.us.size ≤ 100) (fun i => es.length - (RowKit.intOf i).toNat)
      case atStart => exact ⟨0, Nat.zero_le _, rfl, by simp⟩
      case round =>
        obtain ⟨j, hj, rfl, ha⟩ := hrel
        have HAl := Lib.hid ha
        clear ha
        by_cases hlt : j < es.length
        · have e1 : decide ((j : Int) < (es.length : Int)) = true := by simp; omega
          obtain ⟨b, off, rfl, _, hb, c0⟩ := Seq.ev HI2.out.es hlt
          obtain ⟨c0, _⟩ := c0
          have HTK := Lib.hid (List.take_succ_eq_append_getElem hlt)
          have hzz := (HI2.out.ev _ (List.getElem_mem hlt)).1
          unfold maxLen at hzz
          generalize es[j] = u at *
          try simp only at c0
          by_cases hu : u.us.size ≤ 100
          · have e2 : decide ((100 : Int) < (u.us.size : Int)) = false := by simp; omega
            go_wp2_with fail
            go_round
            case rel => exact ⟨j + 1, by omega, by go_num, by rw [HTK.out]; intro e he; rcases List.mem_append.1 he with h | h; exact HAl.out e h; obtain rfl := List.mem_singleton.1 h; exact hu⟩
            case measure => simp [RowKit.intOf]; omega
          · have e2 : decide ((100 : Int) < (u.us.size : Int)) = true := by simp; omega
            go_wp2_with fail
            go_ret
            exact ⟨rfl, HB2.out⟩
        · have e1 : decide ((j : Int) < (es.length : Int)) = false := by simp; omega
          rw [List.take_of_length_le (by omega)] at HAl
          have hin : RepW.In ⟨err, A, cA, vs, E, cE, es, lost⟩ w2 := ⟨HI2.out.vs, HI2.out.es, HI2.out.pv, fun p hp => ⟨HAl.out p hp, (HI2.out.ev p hp).2⟩, HI2.out.err, by show vs.length ≤ 400; omega, by show es.length ≤ 400; omega⟩
          have HIN2 := Lib.hid hin
          clear hin HI2
          obtain ⟨sR, hsR⟩ : ∃ s, joinB (toldB ⟨err, A, cA, vs, E, cE, es, lost⟩) = s := ⟨_, rfl⟩
          obtain ⟨sP, hsP⟩ : ∃ s, presB pa pb pc = s := ⟨_, rfl⟩
          have HR1 : Hid (∀ W, RepW.In ⟨err, A, cA, vs, E, cE, es, lost⟩ W → Tabs W → Calls Tryd.prog 13 #[.agg #[.int .i64 err, .slice A vs.length cA, .slice E es.length cE, .bool lost]] W fun e w' => e = .returned (.string sR) ∧ Below W.heap.size W w') := Lib.hid (fun W h hT => by rw [← hsR]; exact reply ⟨err, A, cA, vs, E, cE, es, lost⟩ W h hT)
          have HR2 : Hid (∀ W, RepW.In ⟨err, A, cA, vs, E, cE, es, lost⟩ W → Tabs W → Calls Tryd.prog 14 #[.agg #[.int .i64 err, .slice A vs.length cA, .slice E es.length cE, .bool lost]] W fun e w' => e = .returned (.string sR) ∧ Below W.heap.size W w') := Lib.hid (fun W h hT => by rw [← hsR]; exact rReply ⟨err, A, cA, vs, E, cE, es, lost⟩ W h hT)
          have HP1 : Hid (∀ W, Tabs W → Calls Tryd.prog 15 #[.agg #[.int .i64 pa, .int .i64 pb, .int .i64 pc]] W fun e w' => e = .returned (.string sP) ∧ Below W.heap.size W w') := Lib.hid (fun W hT => by rw [← hsP]; exact presence pa pb pc k1 k2 k3 W hT)
          have HP2 : Hid (∀ W, Tabs W → Calls Tryd.prog 16 #[.agg #[.int .i64 pa, .int .i64 pb, .int .i64 pc]] W fun e w' => e = .returned (.string sP) ∧ Below W.heap.size W w') := Lib.hid (fun W hT => by rw [← hsP]; exact rPresence pa pb pc k1 k2 k3 W hT)
          clear hsR hsP HAl
          go_wp2_with fail
          refine wp_region_held_drew (S := fun w' => w'.cell? ⟨w.heap.size, 0, none⟩ = some (.int .i64 err) ∧ w'.cell? ⟨w.heap.size, 1, none⟩ = some (.slice A vs.length cA) ∧ w'.cell? ⟨w.heap.size, 2, none⟩ = some (.slice E es.length cE) ∧ w'.cell? ⟨w.heap.size, 3, none⟩ = some (.bool lost) ∧ w'.cell? ⟨w.heap.size + 1, 0, none⟩ = some (.int .i64 pa) ∧ w'.cell? ⟨w.heap.size + 1, 1, none⟩ = some (.int .i64 pb) ∧ w'.cell? ⟨w.heap.size + 1, 2, none⟩ = some (.int .i64 pc)) (by kernel_rfl) ⟨x0, x1, x2, x3, y0, y1, y2⟩ (fun hS0 => ?_)
          refine wpAnyH_take (i := 0) (oi := { dst := some 36, op := .load 36 (.tmp 2), type := _, pos := _, after := _, guard := _ }) (v := .agg #[.int .i64 err, .slice A vs.length cA, .slice E es.length cE, .bool lost]) rfl (by kernel_rfl) (by kernel_rfl) (by kernel_rfl) (fun _ _ _ h => h) (Or.inl ⟨by rfl, ?_⟩) hS0 ?_
          · intro w' hSw
            obtain ⟨s0, s1, s2, s3, s4, s5, s6⟩ := hSw
            go_simp
          try simp only [Act.put, List.setIfInBounds_toArray, List.set_cons_zero, List.set_cons_succ]
          refine wpAnyH_take (i := 2) (oi := { dst := some 38, op := .load 36 (.tmp 2), type := _, pos := _, after := _, guard := _ }) (v := .agg #[.int .i64 err, .slice A vs.length cA, .slice E es.length cE, .bool lost]) rfl (by kernel_rfl) (by kernel_rfl) (by kernel_rfl) (fun _ _ _ h => h) (Or.inl ⟨by rfl, ?_⟩) hS0 ?_
          · intro w' hSw
            obtain ⟨s0, s1, s2, s3, s4, s5, s6⟩ := hSw
            go_simp
          try simp only [Act.put, List.setIfInBounds_toArray, List.set_cons_zero, List.set_cons_succ]
          have bd := Law.below_drewN (Below.refl w2.heap.size w2) 1
          have HX7 : Hid (Is w2.drew w.heap.size 36 (RepW.box ⟨err, A, cA, vs, E, cE, es, lost⟩)) := HX2.out.drewN 1
          have HY7 : Hid (Is w2.drew (w.heap.size + 1) 38 #[.int .i64 pa, .int .i64 pb, .int .i64 pc]) := HY2.out.drewN 1
          have HB7 : Hid (Below w.heap.size w w2.drew) := Lib.hid (Law.below_drewN HB2.out 1)
          have HT7 : Hid (Tabs w2.drew) := Lib.hid (HT2.out.below bd)
          have HIN7 : Hid (RepW.In ⟨err, A, cA, vs, E, cE, es, lost⟩ w2.drew) := Lib.hid (HIN2.out.below bd)
          clear bd
          refine wpAnyH_ready (rs := [1]) (by kernel_rfl) (by simp) ?_
          refine AllReadyH.cons (o := { dst := some 37, op := .call { callee := .value (.func 13), args := #[.tmp 36], argTypes := _ }, type := _, pos := _, after := _, guard := _ }) rfl (fun K hK => ?_) AllReadyH.nil
          go_simp
          refine Calls.mono (HR1.out w2.drew HIN7.out HT7.out) ?_
          rintro e w8 ⟨rfl, b8⟩
          have HX8 := Lib.hid (HX7.out.below b8 HX7.out.lt)
          have HY8 := Lib.hid (HY7.out.below b8 HY7.out.lt)
          have HB8 := Lib.hid (HB7.out.trans (b8.mono HB7.out.size))
          have HT8 := Lib.hid (HT7.out.below b8)
          have HIN8 := Lib.hid (HIN7.out.below b8)
          go_wp2_with fail
          refine hK.out _ _ ⟨HX8.out.cell' rfl, HX8.out.cell' rfl, HX8.out.cell' rfl, HX8.out.cell' rfl, HY8.out.cell' rfl, HY8.out.cell' rfl, HY8.out.cell' rfl⟩ (fun hS1 => ?_)
          clear hK K
          try simp only [Act.put, List.setIfInBounds_toArray, List.set_cons_zero, List.set_cons_succ]
          refine wpAnyH_ready (rs := [3]) (by kernel_rfl) (by simp) ?_
          refine AllReadyH.cons (o := { dst := some 39, op := .call { callee := .value (.func 14), args := #[.tmp 38], argTypes := _ }, type := _, pos := _, after := _, guard := _ }) rfl (fun K hK => ?_) AllReadyH.nil
          go_simp
          refine Calls.mono (HR2.out w8 HIN8.out HT8.out) ?_
          rintro e w9 ⟨rfl, b9⟩
          have HX9 := Lib.hid (HX8.out.below b9 HX8.out.lt)
          have HY9 := Lib.hid (HY8.out.below b9 HY8.out.lt)
          have HB9 := Lib.hid (HB8.out.trans (b9.mono HB8.out.size))
          have HT9 := Lib.hid (HT8.out.below b9)
          have HIN9 := Lib.hid (HIN8.out.below b9)
          go_wp2_with fail
          refine hK.out _ _ ⟨HX9.out.cell' rfl, HX9.out.cell' rfl, HX9.out.cell' rfl, HX9.out.cell' rfl, HY9.out.cell' rfl, HY9.out.cell' rfl, HY9.out.cell' rfl⟩ (fun hS2 => ?_)
          clear hK K
          try simp only [Act.put, List.setIfInBounds_toArray, List.set_cons_zero, List.set_cons_succ]
          refine wpAnyH_take (i := 4) (oi := { dst := some 40, op := .binOp .eql 9 (.tmp 37) (.tmp 39) 9, type := _, pos := _, after := _, guard := _ }) (v := .bool true) rfl (by kernel_rfl) (by kernel_rfl) (by kernel_rfl) (fun _ _ _ h => h) (Or.inl ⟨by rfl, ?_⟩) hS2 ?_
          · intro w' hSw
            go_simp
          try simp only [Act.put, List.setIfInBounds_toArray, List.set_cons_zero, List.set_cons_succ]
          refine wpAnyH_take (i := 5) (oi := { dst := some 41, op := .move (.tmp 40), type := _, pos := _, after := _, guard := _ }) (v := .bool true) rfl (by kernel_rfl) (by kernel_rfl) (by kernel_rfl) (fun _ _ _ h => h) (Or.inl ⟨by rfl, ?_⟩) hS2 ?_
          · intro w' hSw
            go_simp
          try simp only [Act.put, List.setIfInBounds_toArray, List.set_cons_zero, List.set_cons_succ]
          refine wpAnyH_take (i := 6) (oi := { dst := some 42, op := .load 38 (.tmp 3), type := _, pos := _, after := _, guard := _ }) (v := .agg #[.int .i64 pa, .int .i64 pb, .int .i64 pc]) rfl (by kernel_rfl) (by kernel_rfl) (by kernel_rfl) (fun _ _ _ h => h) (Or.inl ⟨by rfl, ?_⟩) hS2 ?_
          · intro w' hSw
            obtain ⟨s0, s1, s2, s3, s4, s5, s6⟩ := hSw
            go_simp
          try simp only [Act.put, List.setIfInBounds_toArray, List.set_cons_zero, List.set_cons_succ]
          refine wpAnyH_take (i := 8) (oi := { dst := some 44, op := .load 38 (.tmp 3), type := _, pos := _, after := _, guard := _ }) (v := .agg #[.int .i64 pa, .int .i64 pb, .int .i64 pc]) rfl (by kernel_rfl) (by kernel_rfl) (by kernel_rfl) (fun _ _ _ h => h) (Or.inl ⟨by rfl, ?_⟩) hS2 ?_
          · intro w' hSw
            obtain ⟨s0, s1, s2, s3, s4, s5, s6⟩ := hSw
            go_simp
          try simp only [Act.put, List.setIfInBounds_toArray, List.set_cons_zero, List.set_cons_succ]
          refine wpAnyH_ready (rs := [7]) (by kernel_rfl) (by simp) ?_
          refine AllReadyH.cons (o := { dst := some 43, op := .call { callee := .value (.func 15), args := #[.tmp 42], argTypes := _ }, type := _, pos := _, after := _, guard := _ }) rfl (fun K hK => ?_) AllReadyH.nil
          go_simp
          refine Calls.mono (HP1.out w9 HT9.out) ?_
          rintro e wa ⟨rfl, ba⟩
          have HXa := Lib.hid (HX9.out.below ba HX9.out.lt)
          have HYa := Lib.hid (HY9.out.below ba HY9.out.lt)
          have HBa := Lib.hid (HB9.out.trans (ba.mono HB9.out.size))
          have HTa := Lib.hid (HT9.out.below ba)
          have HINa := Lib.hid (HIN9.out.below ba)
          go_wp2_with fail
          refine hK.out _ _ ⟨HXa.out.cell' rfl, HXa.out.cell' rfl, HXa.out.cell' rfl, HXa.out.cell' rfl, HYa.out.cell' rfl, HYa.out.cell' rfl, HYa.out.cell' rfl⟩ (fun hS3 => ?_)
          clear hK K
          try simp only [Act.put, List.setIfInBounds_toArray, List.set_cons_zero, List.set_cons_succ]
          refine wpAnyH_ready (rs := [9]) (by kernel_rfl) (by simp) ?_
          refine AllReadyH.cons (o := { dst := some 45, op := .call { callee := .value (.func 16), args := #[.tmp 44], argTypes := _ }, type := _, pos := _, after := _, guard := _ }) rfl (fun K hK => ?_) AllReadyH.nil
          go_simp
          refine Calls.mono (HP2.out wa HTa.out) ?_
          rintro e wb ⟨rfl, bb⟩
          have HXb := Lib.hid (HXa.out.below bb HXa.out.lt)
          have HYb := Lib.hid (HYa.out.below bb HYa.out.lt)
          have HBb := Lib.hid (HBa.out.trans (bb.mono HBa.out.size))
          have HTb := Lib.hid (HTa.out.below bb)
          have HINb := Lib.hid (HINa.out.below bb)
          go_wp2_with fail
          refine hK.out _ _ ⟨HXb.out.cell' rfl, HXb.out.cell' rfl, HXb.out.cell' rfl, HXb.out.cell' rfl, HYb.out.cell' rfl, HYb.out.cell' rfl, HYb.out.cell' rfl⟩ (fun hS4 => ?_)
          clear hK K
          try simp only [Act.put, List.setIfInBounds_toArray, List.set_cons_zero, List.set_cons_succ]
          refine wpAnyH_take (i := 10) (oi := { dst := some 46, op := .binOp .eql 9 (.tmp 43) (.tmp 45) 9, type := _, pos := _, after := _, guard := _ }) (v := .bool true) rfl (by kernel_rfl) (by kernel_rfl) (by kernel_rfl) (fun _ _ _ h => h) (Or.inl ⟨by rfl, ?_⟩) hS4 ?_
          · intro w' hSw
            go_simp
          try simp only [Act.put, List.setIfInBounds_toArray, List.set_cons_zero, List.set_cons_succ]
          refine wpAnyH_take (i := 11) (oi := { dst := some 47, op := .pick (.tmp 41) (.tmp 46) (.const (.bool false)), type := _, pos := _, after := _, guard := _ }) (v := .bool true) rfl (by kernel_rfl) (by kernel_rfl) (by kernel_rfl) (fun _ _ _ h => h) (Or.inl ⟨by rfl, ?_⟩) hS4 ?_
          · intro w' hSw
            go_simp
          try simp only [Act.put, List.setIfInBounds_toArray, List.set_cons_zero, List.set_cons_succ]
          refine wpAnyH_take (i := 12) (oi := { dst := some 4, op := .assign (.tmp 47), type := _, pos := _, after := _, guard := _ }) (v := .bool true) rfl (by kernel_rfl) (by kernel_rfl) (by kernel_rfl) (fun _ _ _ h => h) (Or.inl ⟨by rfl, ?_⟩) hS4 ?_
          · intro w' hSw
            go_simp
          try simp only [Act.put, List.setIfInBounds_toArray, List.set_cons_zero, List.set_cons_succ]
          refine wpAnyH_done (by kernel_rfl) ?_ _
          go_wp2_with fail
          go_ret
          exact ⟨rfl, HBb.out⟩
set_option maxRecDepth 100000 in
set_option maxHeartbeats 4000000 in
theorem lifted (os : Os) (started : os.Started) (H : Type) (enc : TypeId × Value → H) :
    ReturnsInHanded {} Tryd.checked os 4 .any (fun w args => (Rows.opRepliesSpec.pre enc Tryd.prog Tryd.f4 [] false w args ∧ laidMetH Tryd.prog Rows.opRepliesRow.laid w) ∧ sizedMet enc Tryd.prog Tryd.f4 (OpenSpec.ofChange Rows.opRepliesSpec) false w args) (Rows.opRepliesSpec.post enc Tryd.prog Tryd.f4 false true false false) := by
  refine returnsInHanded_of_change_and (C := Tryd.checked) (X := (fun w _ => laidMetH Tryd.prog Rows.opRepliesRow.laid w)) (fun _ _ _ hh h => h.of_heap hh) own started (by kernel_rfl) Tryd.func4
    (ChangeSpec.witness_shaped (enc := enc) (C := Tryd.checked) (os := os) (X := (fun w _ => laidMetH Tryd.prog Rows.opRepliesRow.laid w)) false (World.laidAll Tryd.prog os Rows.opRepliesRow.laid) #[.agg #[.int .i64 0, .slice none 0 0, .slice none 0 0, .bool false], .agg #[.int .i64 0, .int .i64 0, .int .i64 0]] 8 (World.laidAll_os _ _ _)
      (World.shaped_of_ZipB (by kernel_rfl) (by kernel_rfl)) (by kernel_rfl) (by kernel_rfl) (by kernel_rfl)
      (by rw [MakeChecks.laidMetH_plain _ _ _ (by kernel_rfl)]; exact laidMet_laidAll _ (by kernel_rfl) (by kernel_rfl))) ?_
  intro W base args ds gs before hval0 hW _ _ hL _
  have hval : ∀ (j : Nat) t v, Tryd.f4.params[j]? = some t → args[j]? = some v → Value.okWide Tryd.prog W .any base t v := hval0
  have hW' := hW
  obtain ⟨p, q, hA0, hV, rfl, hfz, hnd⟩ := hW
  have hA : DataW.TrodAll enc Tryd.prog W 0 (fun _ => true) true Tryd.f4.params.toList args.toList ds p := hA0
  rw [Tryd.params4] at hA hval
  obtain ⟨v0, vs0, d0, ds0, p0, q0, hargs, rfl, rfl, h0, r0⟩ := trodAll_cons hA
  obtain ⟨v1, vs1, d1, ds1, p1, q1, rfl, rfl, rfl, h1, r1⟩ := trodAll_cons r0
  obtain ⟨rfl, rfl, rfl⟩ := trodAll_nil r1
  obtain rfl : args = #[v0, v1] := by cases args; simp_all
  obtain ⟨q, rfl, hq⟩ := open_rep (hval 0 36 v0 rfl rfl) h0
  obtain ⟨p, rfl, hp⟩ := Opx.open_p3 (hval 1 38 v1 rfl rfl) h1
  rw [MakeChecks.laidMetH_plain _ _ _ (by kernel_rfl)] at hL
  have HTb := Opx.tabs_of hL
  refine (walk q p hp W hq HTb).mono fun e W' ⟨he, bel⟩ => ?_
  subst he
  exact ⟨_, rfl, Law.post_law laidOut (by kernel_rfl) (by kernel_rfl) Tryd.underlying4 rfl (fun ds h => by match ds, h with | [_, _], _ => rfl) hW' bel⟩
theorem holds : Rows.OpRepliesSaid :=
  OpenClaim.holds_of_wide 4 Tryd.f4 rfl rfl rfl rfl rfl rfl rfl ⟨rfl, rfl, rfl, rfl, rfl⟩ rfl rfl rfl rfl rfl (by kernel_rfl) Tryd.func4 (by kernel_rfl)
    (of_decide_eq_true (by kernel_rfl)) (by unfold Func.isWrapper; first | (rw [if_pos (by decide +kernel)]; kernel_rfl) | (rw [if_neg (by decide +kernel)]; exact ⟨rfl, rfl⟩))
    (fun os started H enc _ => lifted os started H enc)
theorem proved : Rows.OpRepliesCardSaid :=
  Claim7.holds_tied_plain_at .later [] [.data, .data, .data, .data, .data, .pinned, .pinned, .pinned, .pinned, .pinned, .pinned] true (true, "e0587f967aa7f4d95d833c96f1390b2fa1cf91158ae5b78b86fc9c5f381e3e5e") false holds (fun _ h => by cases h) (by kernel_rfl) (fun _ h => by cases h) opReplies_row_tie rfl ⟨rfl, rfl⟩ (by kernel_rfl) rfl
    (fun f fn hf hfn => by
      obtain rfl : f = 4 := Option.some.inj ((show Tryd.prog.funcNamed Rows.opRepliesRow.func = some 4 by kernel_rfl).symm.trans hf) |>.symm
      obtain rfl : fn = Tryd.f4 := (Option.some.inj (Tryd.func4.symm.trans hfn)).symm
      exact ⟨by kernel_rfl, fun j t ht => by
        rw [Tryd.params4] at ht
        have hm : t ∈ [36, 38] := by simpa using Array.mem_of_getElem? ht
        have hall : ([36, 38].all fun u => !Tryd.prog.wantsStandIn u) = true := by kernel_rfl
        exact (show Tryd.prog.wantsStandIn t = false by simpa using List.all_eq_true.1 hall t hm)⟩)
    (by kernel_rfl)
#print axioms proved
end opReplies
end Go.Proofs.YtjllofcfcecfbaaDoor
