/-
  The reference's Reply (layer 11).
-/
import Derived.Test.YtjllofcfcecfbaaDoorOpRef
import Derived.Test.YtjllofcfcecfbaaDoorOpLosP
namespace Go.Proofs.YtjllofcfcecfbaaDoor
open Go.RowKit Go.Shelf Go.Lib
attribute [local go_sem] Oper.semAt_some
namespace Opx
open Go.Law
theorem join_add (x : ByteArray) (xs : List ByteArray) (y : ByteArray) : (joinB (x :: xs) ++ (⟨#[32]⟩ : ByteArray)) ++ y = joinB ((x :: xs) ++ [y]) := by
  rw [join_snoc]
  apply ByteArray.ext
  simp only [ByteArray.data_append, Array.append_assoc]
theorem join_one (x : ByteArray) : joinB [x] = x := by
  show (⟨(Lib.join ([x].map (·.data.toList)) [32]).toArray⟩ : ByteArray) = _
  apply ByteArray.ext
  simp [Lib.join, List.intercalate]
/-- the words so far -/
def soFar (err : Int) (vs : List P3) (es : List Ev) : ByteArray := joinB (intB err :: (vs.map pB ++ es.map eB))
theorem soFar_nil (err : Int) : soFar err [] [] = intB err := join_one _
theorem soFar_v (err : Int) (vs : List P3) (p : P3) : (soFar err vs [] ++ (⟨#[32]⟩ : ByteArray)) ++ pB p = soFar err (vs ++ [p]) [] := by
  unfold soFar
  rw [join_add]
  simp
theorem soFar_e (err : Int) (vs : List P3) (es : List Ev) (e : Ev) : (soFar err vs es ++ (⟨#[32]⟩ : ByteArray)) ++ eB e = soFar err vs (es ++ [e]) := by
  unfold soFar
  rw [join_add]
  simp
theorem soFar_told (q : RepW) : joinB (toldB q) = if q.lost then soFar q.err q.vs q.es ++ ⟨#[32, 108, 111, 115, 116]⟩ else soFar q.err q.vs q.es := by
  obtain ⟨err, A, cA, vs, E, cE, es, lost⟩ := q
  cases lost
  · simp only [Bool.false_eq_true, if_false]
    unfold toldB soFar
    simp
  · simp only [if_true]
    rw [told_lost]
    unfold toldB soFar
    simp
theorem ev_split (s : ByteArray) (u : ByteArray) (p o : ByteArray) (d : ByteArray) : (((((((s ++ (⟨#[32]⟩ : ByteArray)) ++ u) ++ (⟨#[58]⟩ : ByteArray)) ++ p) ++ (⟨#[62]⟩ : ByteArray)) ++ o) ++ (⟨#[64]⟩ : ByteArray)) ++ d = (s ++ (⟨#[32]⟩ : ByteArray)) ++ ((((((u ++ (⟨#[58]⟩ : ByteArray)) ++ p) ++ (⟨#[62]⟩ : ByteArray)) ++ o) ++ (⟨#[64]⟩ : ByteArray)) ++ d) := by
  apply ByteArray.ext
  simp only [ByteArray.data_append, Array.append_assoc]
theorem soFar_size {q : RepW} {w : World} (h : q.In w) (j k : Nat) : (soFar q.err (q.vs.take j) (q.es.take k)).size ≤ 1050000 := by
  have h' : RepW.In ⟨q.err, none, 0, q.vs.take j, none, 0, q.es.take k, false⟩ w → (soFar q.err (q.vs.take j) (q.es.take k)).size ≤ 1050000 := fun hh => by
    have := told_size hh
    rw [soFar_told] at this
    simpa using this
  have hl := h.lv
  have he := h.le
  have key : ∀ x ∈ (intB q.err :: ((q.vs.take j).map pB ++ (q.es.take k).map eB)), x.size ≤ 1300 := by
    intro x hx
    refine told_word h x ?_
    unfold toldB
    rcases List.mem_cons.1 hx with rfl | hx
    · exact List.mem_append.2 (.inl (List.mem_append.2 (.inl List.mem_cons_self)))
    · rcases List.mem_append.1 hx with hx | hx
      · obtain ⟨p, hp, rfl⟩ := List.mem_map.1 hx
        exact List.mem_append.2 (.inl (List.mem_append.2 (.inl (List.mem_cons_of_mem _ (List.mem_map.2 ⟨p, List.mem_of_mem_take hp, rfl⟩)))))
      · obtain ⟨p, hp, rfl⟩ := List.mem_map.1 hx
        exact List.mem_append.2 (.inl (List.mem_append.2 (.inr (List.mem_map.2 ⟨p, List.mem_of_mem_take hp, rfl⟩))))
  have h1 := join_le _ 1300 key
  have h2 : (intB q.err :: ((q.vs.take j).map pB ++ (q.es.take k).map eB)).length ≤ 801 := by
    simp
    omega
  have := Nat.mul_le_mul_right (1300 + 1) h2
  unfold soFar
  omega
set_option maxRecDepth 100000 in
set_option maxHeartbeats 4000000 in
theorem rReply (q : RepW) (w : World) (hq : q.In w) (hT : Tabs w) :
    Calls Tryd.prog 14 #[.agg q.box] w fun e w' => e = .returned (.string (joinB (toldB q))) ∧ Below w.heap.size w w' := by
  have HSZ := Lib.hid (soFar_size hq)
  have HTO := Lib.hid (soFar_told q)
  rw [HTO.out]
  obtain ⟨err, A, cA, vs, E, cE, es, lost⟩ := q
  have HV := Lib.hid hq.vs
  have HE := Lib.hid hq.es
  have HPV := Lib.hid hq.pv
  have HPE := Lib.hid hq.ev
  have lv := hq.lv
  have le := hq.le
  have herr := hq.err
  simp only at lv le herr
  have HT := Lib.hid hT
  have HX := Lib.hid (Is.new w 36 (RepW.box ⟨err, A, cA, vs, E, cE, es, lost⟩) rfl)
  have bb := (Below.refl w.heap.size w).alloc (Nat.le_refl _) (.cells (RepW.box ⟨err, A, cA, vs, E, cE, es, lost⟩) 36)
  have HB := Lib.hid bb
  clear hq hT bb HTO
  go_enter Tryd.func14, Tryd.ntmps14
  go_wp2_with fail
  generalize (w.alloc (.cells (RepW.box ⟨err, A, cA, vs, E, cE, es, lost⟩) 36)) = w1 at *
  refine (rInt err herr.1 herr.2 w1).mono ?_
  rintro e w2 ⟨rfl, b2⟩
  have HX2 := Lib.hid (HX.out.below b2 HX.out.lt)
  have HB2 := Lib.hid (HB.out.trans (b2.mono HB.out.size))
  clear b2 HX HB
  rw [← soFar_nil]
  go_wp2_with fail
  go_loopw [3, 4] (fun vt vi wr => ∃ j : Nat, j ≤ vs.length ∧ vi = .int .i64 j ∧ vt = .string (soFar err (vs.take j) []) ∧ Is wr w.heap.size 36 (RepW.box ⟨err, A, cA, vs, E, cE, es, lost⟩) ∧ Below w.heap.size w wr) (fun _ vi _ => vs.length - (RowKit.intOf vi).toNat)
  case atStart => exact ⟨0, Nat.zero_le _, rfl, rfl, HX2.out, HB2.out⟩
  case round =>
    clear HX2 HB2
    obtain ⟨j, hj, rfl, rfl, hX, hB⟩ := hrel
    have HX := Lib.hid hX
    have HB := Lib.hid hB
    have sz := hB.size
    clear hX hB
    have x1 : wr.cell? ⟨w.heap.size, 1, none⟩ = some (.slice A vs.length cA) := HX.out.cell' rfl
    have x2 : wr.cell? ⟨w.heap.size, 2, none⟩ = some (.slice E es.length cE) := HX.out.cell' rfl
    have lx := HX.out.lt
    by_cases hlt : j < vs.length
    · have d1 : decide ((j : Int) < (vs.length : Int)) = true := by simp; omega
      obtain ⟨b, off, rfl, _, hb, c0, c1, c2⟩ := Seq.p3 (HV.out.below HB.out) hlt
      have hok := HPV.out _ (List.getElem_mem hlt)
      have HTK := Lib.hid (List.take_succ_eq_append_getElem hlt)
      have hsz := HSZ.out j 0
      simp only [List.take_zero] at hsz
      generalize vs[j] = u at *
      obtain ⟨ua, ub, uc⟩ := u
      have HST := Lib.hid (soFar_v err (vs.take j) (ua, ub, uc))
      generalize soFar err (vs.take j) [] = st at *
      simp only at c0 c1 c2 hok
      have hps := presB_size ua ub uc hok.1 hok.2.1 hok.2.2
      have h32 : (⟨#[32]⟩ : ByteArray).size = 1 := rfl
      go_wp2_with fail
      refine (rPresence ua ub uc hok.1 hok.2.1 hok.2.2 wr (HT.out.below HB.out)).mono ?_
      rintro e w5 ⟨rfl, b2⟩
      have HB2 := Lib.hid (HB.out.trans (b2.mono HB.out.size))
      have HX2 := Lib.hid (HX.out.below b2 HX.out.lt)
      clear b2 HB HX
      go_wp2_with fail
      go_roundw
      case rel => exact ⟨j + 1, by omega, by go_num, by rw [HTK.out, ← HST.out]; rfl, HX2.out, HB2.out⟩
      case measure => simp [RowKit.intOf]; omega
    · obtain rfl : j = vs.length := by omega
      have d1 : decide ((vs.length : Int) < (vs.length : Int)) = false := by simp
      rw [List.take_of_length_le (Nat.le_refl _)]
      go_wp2_with fail
      clear x1 x2 lx HV
      go_loopw [3, 5] (fun vt vi wr => ∃ k : Nat, k ≤ es.length ∧ vi = .int .i64 k ∧ vt = .string (soFar err vs (es.take k)) ∧ Is wr w.heap.size 36 (RepW.box ⟨err, A, cA, vs, E, cE, es, lost⟩) ∧ Below w.heap.size w wr) (fun _ vi _ => es.length - (RowKit.intOf vi).toNat)
      case atStart => exact ⟨0, Nat.zero_le _, rfl, rfl, HX.out, HB.out⟩
      case round =>
        clear HX HB sz
        obtain ⟨k, hk, rfl, rfl, hX, hB⟩ := hrel
        have HX := Lib.hid hX
        have HB := Lib.hid hB
        have sz := hB.size
        clear hX hB
        have x2 : wr.cell? ⟨w.heap.size, 2, none⟩ = some (.slice E es.length cE) := HX.out.cell' rfl
        have x3 : wr.cell? ⟨w.heap.size, 3, none⟩ = some (.bool lost) := HX.out.cell' rfl
        have lx := HX.out.lt
        have hsz := HSZ.out vs.length k
        simp only [List.take_length] at hsz
        by_cases hlt : k < es.length
        · have d1 : decide ((k : Int) < (es.length : Int)) = true := by simp; omega
          obtain ⟨b, off, rfl, _, hb, c0⟩ := Seq.ev (HE.out.below HB.out) hlt
          obtain ⟨c0, c1, c2, c3, c4, c5, c6, c7⟩ := c0
          have hok := HPE.out _ (List.getElem_mem hlt)
          have HTK := Lib.hid (List.take_succ_eq_append_getElem hlt)
          have HST := Lib.hid (soFar_e err vs (es.take k) es[k])
          generalize es[k] = u at *
          obtain ⟨uu, p1, p2, p3, p4, p5, p6, sq⟩ := u
          obtain ⟨h0, h1, h2, h3, h4, h5, h6, h7, h8⟩ := hok
          obtain ⟨sn, hsn⟩ := Int.eq_ofNat_of_zero_le h7
          simp only at hsn h0 h1 h2 h3 h4 h5 h6 h8 c0 c1 c2 c3 c4 c5 c6 c7
          subst hsn
          have hsn2 : sn < 18446744073709551616 := by omega
          have HST' : Hid ((soFar err vs (es.take k) ++ (⟨#[32]⟩ : ByteArray)) ++ eventB uu p1 p2 p3 p4 p5 p6 sn = soFar err vs (es.take k ++ [⟨uu, p1, p2, p3, p4, p5, p6, (sn : Int)⟩])) := HST
          clear HST
          generalize soFar err vs (es.take k) = st at *
          go_upto_region 10 with (fail)
          have ba := (Below.refl wr.heap.size wr).alloc (Nat.le_refl _) (.cells #[.string uu, .int .i64 p1, .int .i64 p2, .int .i64 p3, .int .i64 p4, .int .i64 p5, .int .i64 p6, .int .u64 (sn : Int)] 40)
          have HB1 := Lib.hid (HB.out.trans (ba.mono sz))
          have HX1 := Lib.hid (HX.out.below ba HX.out.lt)
          have HI1 := Lib.hid (Is.new wr 40 #[.string uu, .int .i64 p1, .int .i64 p2, .int .i64 p3, .int .i64 p4, .int .i64 p5, .int .i64 p6, .int .u64 (sn : Int)] rfl)
          obtain ⟨g6, hg6⟩ : ∃ g6, wr.heap.size = g6 := ⟨_, rfl⟩
          rw [hg6] at HI1
          clear ba HB HX c0 c1 c2 c3 c4 c5 c6 c7 x2 x3 lx
          generalize wr.alloc (.cells #[.string uu, .int .i64 p1, .int .i64 p2, .int .i64 p3, .int .i64 p4, .int .i64 p5, .int .i64 p6, .int .u64 (sn : Int)] 40) = w4 at *
          simp only [hg6] at *
          clear hg6
          have y0 := HI1.out.cell' (i := 0) rfl
          have y1 := HI1.out.cell' (i := 1) rfl
          have y2 := HI1.out.cell' (i := 2) rfl
          have y3 := HI1.out.cell' (i := 3) rfl
          have y4 := HI1.out.cell' (i := 4) rfl
          have y5 := HI1.out.cell' (i := 5) rfl
          have y6 := HI1.out.cell' (i := 6) rfl
          have y7 := HI1.out.cell' (i := 7) rfl
          have ly := HI1.out.lt
          have HT1 := Lib.hid (HT.out.below HB1.out)
          have iu := quoteB_size uu
          have ip := presB_size p1 p2 p3 h1 h2 h3
          have iq := presB_size p4 p5 p6 h4 h5 h6
          have idd := decB_size sn hsn2
          have h32 : (⟨#[32]⟩ : ByteArray).size = 1 := rfl
          have h58 : (⟨#[58]⟩ : ByteArray).size = 1 := rfl
          have h62 : (⟨#[62]⟩ : ByteArray).size = 1 := rfl
          have h64 : (⟨#[64]⟩ : ByteArray).size = 1 := rfl
          refine wp_region_held_drew (S := fun w' => w'.cell? ⟨g6, 0, none⟩ = some (.string uu) ∧ w'.cell? ⟨g6, 1, none⟩ = some (.int .i64 p1) ∧ w'.cell? ⟨g6, 2, none⟩ = some (.int .i64 p2) ∧ w'.cell? ⟨g6, 3, none⟩ = some (.int .i64 p3) ∧ w'.cell? ⟨g6, 4, none⟩ = some (.int .i64 p4) ∧ w'.cell? ⟨g6, 5, none⟩ = some (.int .i64 p5) ∧ w'.cell? ⟨g6, 6, none⟩ = some (.int .i64 p6) ∧ w'.cell? ⟨g6, 7, none⟩ = some (.int .u64 (sn : Int))) (by kernel_rfl) ⟨y0, y1, y2, y3, y4, y5, y6, y7⟩ (fun hS0 => ?_)
          refine wpAnyH_take (i := 0) (oi := { dst := some 38, op := .move (.tmp 3), type := _, pos := _, after := _, guard := _ }) (v := .string st) rfl (by kernel_rfl) (by kernel_rfl) (by kernel_rfl) (fun _ _ _ h => h) (Or.inl ⟨by rfl, ?_⟩) hS0 ?_
          · intro w' hSw
            go_simp
          try simp only [Act.put, List.setIfInBounds_toArray, List.set_cons_zero, List.set_cons_succ]
          refine wpAnyH_take (i := 1) (oi := { dst := some 39, op := .binOp .add 9 (.tmp 38) (.const (.string ⟨#[32]⟩)) 9, type := _, pos := _, after := _, guard := _ }) (v := .string (st ++ ⟨#[32]⟩)) rfl (by kernel_rfl) (by kernel_rfl) (by kernel_rfl) (fun _ _ _ h => h) (Or.inl ⟨by rfl, ?_⟩) hS0 ?_
          · intro w' hSw
            go_simp
            omega
          try simp only [Act.put, List.setIfInBounds_toArray, List.set_cons_zero, List.set_cons_succ]
          refine wpAnyH_take (i := 2) (oi := { dst := some 40, op := .fieldAddr 40 (.tmp 6) 0, type := _, pos := _, after := _, guard := _ }) (v := .pointer (some ⟨g6, 0, none⟩)) rfl (by kernel_rfl) (by kernel_rfl) (by kernel_rfl) (fun _ _ _ h => h) (Or.inl ⟨by rfl, ?_⟩) hS0 ?_
          · intro w' hSw
            go_simp
          try simp only [Act.put, List.setIfInBounds_toArray, List.set_cons_zero, List.set_cons_succ]
          refine wpAnyH_take (i := 3) (oi := { dst := some 41, op := .load 9 (.tmp 40), type := _, pos := _, after := _, guard := _ }) (v := .string uu) rfl (by kernel_rfl) (by kernel_rfl) (by kernel_rfl) (fun _ _ _ h => h) (Or.inl ⟨by rfl, ?_⟩) hS0 ?_
          · intro w' hSw
            obtain ⟨s0', s1', s2', s3', s4', s5', s6', s7'⟩ := hSw
            go_simp
          try simp only [Act.put, List.setIfInBounds_toArray, List.set_cons_zero, List.set_cons_succ]
          refine wpAnyH_take (i := 7) (oi := { dst := some 45, op := .fieldAddr 40 (.tmp 6) 1, type := _, pos := _, after := _, guard := _ }) (v := .pointer (some ⟨g6, 1, none⟩)) rfl (by kernel_rfl) (by kernel_rfl) (by kernel_rfl) (fun _ _ _ h => h) (Or.inl ⟨by rfl, ?_⟩) hS0 ?_
          · intro w' hSw
            go_simp
          try simp only [Act.put, List.setIfInBounds_toArray, List.set_cons_zero, List.set_cons_succ]
          refine wpAnyH_take (i := 8) (oi := { dst := some 46, op := .load 38 (.tmp 45), type := _, pos := _, after := _, guard := _ }) (v := .agg #[.int .i64 p1, .int .i64 p2, .int .i64 p3]) rfl (by kernel_rfl) (by kernel_rfl) (by kernel_rfl) (fun _ _ _ h => h) (Or.inl ⟨by rfl, ?_⟩) hS0 ?_
          · intro w' hSw
            obtain ⟨s0', s1', s2', s3', s4', s5', s6', s7'⟩ := hSw
            go_simp
          try simp only [Act.put, List.setIfInBounds_toArray, List.set_cons_zero, List.set_cons_succ]
          refine wpAnyH_take (i := 12) (oi := { dst := some 50, op := .fieldAddr 40 (.tmp 6) 2, type := _, pos := _, after := _, guard := _ }) (v := .pointer (some ⟨g6, 4, none⟩)) rfl (by kernel_rfl) (by kernel_rfl) (by kernel_rfl) (fun _ _ _ h => h) (Or.inl ⟨by rfl, ?_⟩) hS0 ?_
          · intro w' hSw
            go_simp
          try simp only [Act.put, List.setIfInBounds_toArray, List.set_cons_zero, List.set_cons_succ]
          refine wpAnyH_take (i := 13) (oi := { dst := some 51, op := .load 38 (.tmp 50), type := _, pos := _, after := _, guard := _ }) (v := .agg #[.int .i64 p4, .int .i64 p5, .int .i64 p6]) rfl (by kernel_rfl) (by kernel_rfl) (by kernel_rfl) (fun _ _ _ h => h) (Or.inl ⟨by rfl, ?_⟩) hS0 ?_
          · intro w' hSw
            obtain ⟨s0', s1', s2', s3', s4', s5', s6', s7'⟩ := hSw
            go_simp
          try simp only [Act.put, List.setIfInBounds_toArray, List.set_cons_zero, List.set_cons_succ]
          refine wpAnyH_take (i := 17) (oi := { dst := some 55, op := .fieldAddr 40 (.tmp 6) 3, type := _, pos := _, after := _, guard := _ }) (v := .pointer (some ⟨g6, 7, none⟩)) rfl (by kernel_rfl) (by kernel_rfl) (by kernel_rfl) (fun _ _ _ h => h) (Or.inl ⟨by rfl, ?_⟩) hS0 ?_
          · intro w' hSw
            go_simp
          try simp only [Act.put, List.setIfInBounds_toArray, List.set_cons_zero, List.set_cons_succ]
          refine wpAnyH_take (i := 18) (oi := { dst := some 56, op := .load 22 (.tmp 55), type := _, pos := _, after := _, guard := _ }) (v := .int .u64 (sn : Int)) rfl (by kernel_rfl) (by kernel_rfl) (by kernel_rfl) (fun _ _ _ h => h) (Or.inl ⟨by rfl, ?_⟩) hS0 ?_
          · intro w' hSw
            obtain ⟨s0', s1', s2', s3', s4', s5', s6', s7'⟩ := hSw
            go_simp
          try simp only [Act.put, List.setIfInBounds_toArray, List.set_cons_zero, List.set_cons_succ]
          have HXa : Hid (Is w4.drew g6 40 #[.string uu, .int .i64 p1, .int .i64 p2, .int .i64 p3, .int .i64 p4, .int .i64 p5, .int .i64 p6, .int .u64 (sn : Int)]) := HI1.out.drewN 1
          have HBa := Lib.hid (Law.below_drewN HB1.out 1)
          have HTa := Lib.hid (HT1.out.below (Law.below_drewN (Below.refl _ w4) 1))
          have HRa : Hid (Is w4.drew w.heap.size 36 (RepW.box ⟨err, A, cA, vs, some ⟨b, off, none⟩, cE, es, lost⟩)) := HX1.out.drewN 1
          refine wpAnyH_ready (rs := [4]) (by kernel_rfl) (by simp) ?_
          refine AllReadyH.cons (o := { dst := some 42, op := .call { callee := .value (.func 21), args := #[.tmp 41], argTypes := _ }, type := _, pos := _, after := _, guard := _ }) rfl (fun K hK => ?_) AllReadyH.nil
          go_simp
          refine Calls.mono (quote uu (by omega) w4.drew HTa.out) ?_
          rintro e vp ⟨rfl, bx⟩
          have HXp := Lib.hid (HXa.out.below bx HXa.out.lt)
          have HRp := Lib.hid (HRa.out.below bx HRa.out.lt)
          have HBp := Lib.hid (HBa.out.trans (bx.mono HBa.out.size))
          have HTp := Lib.hid (HTa.out.below bx)
          clear bx
          go_wp2_with fail
          refine hK.out _ _ ⟨HXp.out.cell' rfl, HXp.out.cell' rfl, HXp.out.cell' rfl, HXp.out.cell' rfl, HXp.out.cell' rfl, HXp.out.cell' rfl, HXp.out.cell' rfl, HXp.out.cell' rfl⟩ (fun hSp => ?_)
          clear hK K
          try simp only [Act.put, List.setIfInBounds_toArray, List.set_cons_zero, List.set_cons_succ]
          refine wpAnyH_take (i := 5) (oi := { dst := some 43, op := .binOp .add 9 (.tmp 39) (.tmp 42) 9, type := _, pos := _, after := _, guard := _ }) (v := .string ((st ++ ⟨#[32]⟩) ++ quoteB uu)) rfl (by kernel_rfl) (by kernel_rfl) (by kernel_rfl) (fun _ _ _ h => h) (Or.inl ⟨by rfl, ?_⟩) hSp ?_
          · intro w' hSw
            go_simp
            omega
          try simp only [Act.put, List.setIfInBounds_toArray, List.set_cons_zero, List.set_cons_succ]
          refine wpAnyH_take (i := 6) (oi := { dst := some 44, op := .binOp .add 9 (.tmp 43) (.const (.string ⟨#[58]⟩)) 9, type := _, pos := _, after := _, guard := _ }) (v := .string (((st ++ ⟨#[32]⟩) ++ quoteB uu) ++ ⟨#[58]⟩)) rfl (by kernel_rfl) (by kernel_rfl) (by kernel_rfl) (fun _ _ _ h => h) (Or.inl ⟨by rfl, ?_⟩) hSp ?_
          · intro w' hSw
            go_simp
            omega
          try simp only [Act.put, List.setIfInBounds_toArray, List.set_cons_zero, List.set_cons_succ]
          refine wpAnyH_ready (rs := [9]) (by kernel_rfl) (by simp) ?_
          refine AllReadyH.cons (o := { dst := some 47, op := .call { callee := .value (.func 16), args := #[.tmp 46], argTypes := _ }, type := _, pos := _, after := _, guard := _ }) rfl (fun K hK => ?_) AllReadyH.nil
          go_simp
          refine Calls.mono (rPresence p1 p2 p3 h1 h2 h3 vp HTp.out) ?_
          rintro e vq ⟨rfl, bx⟩
          have HXq := Lib.hid (HXp.out.below bx HXp.out.lt)
          have HRq := Lib.hid (HRp.out.below bx HRp.out.lt)
          have HBq := Lib.hid (HBp.out.trans (bx.mono HBp.out.size))
          have HTq := Lib.hid (HTp.out.below bx)
          clear bx
          go_wp2_with fail
          refine hK.out _ _ ⟨HXq.out.cell' rfl, HXq.out.cell' rfl, HXq.out.cell' rfl, HXq.out.cell' rfl, HXq.out.cell' rfl, HXq.out.cell' rfl, HXq.out.cell' rfl, HXq.out.cell' rfl⟩ (fun hSq => ?_)
          clear hK K
          try simp only [Act.put, List.setIfInBounds_toArray, List.set_cons_zero, List.set_cons_succ]
          refine wpAnyH_take (i := 10) (oi := { dst := some 48, op := .binOp .add 9 (.tmp 44) (.tmp 47) 9, type := _, pos := _, after := _, guard := _ }) (v := .string ((((st ++ ⟨#[32]⟩) ++ quoteB uu) ++ ⟨#[58]⟩) ++ presB p1 p2 p3)) rfl (by kernel_rfl) (by kernel_rfl) (by kernel_rfl) (fun _ _ _ h => h) (Or.inl ⟨by rfl, ?_⟩) hSq ?_
          · intro w' hSw
            go_simp
            omega
          try simp only [Act.put, List.setIfInBounds_toArray, List.set_cons_zero, List.set_cons_succ]
          refine wpAnyH_take (i := 11) (oi := { dst := some 49, op := .binOp .add 9 (.tmp 48) (.const (.string ⟨#[62]⟩)) 9, type := _, pos := _, after := _, guard := _ }) (v := .string (((((st ++ ⟨#[32]⟩) ++ quoteB uu) ++ ⟨#[58]⟩) ++ presB p1 p2 p3) ++ ⟨#[62]⟩)) rfl (by kernel_rfl) (by kernel_rfl) (by kernel_rfl) (fun _ _ _ h => h) (Or.inl ⟨by rfl, ?_⟩) hSq ?_
          · intro w' hSw
            go_simp
            omega
          try simp only [Act.put, List.setIfInBounds_toArray, List.set_cons_zero, List.set_cons_succ]
          refine wpAnyH_ready (rs := [14]) (by kernel_rfl) (by simp) ?_
          refine AllReadyH.cons (o := { dst := some 52, op := .call { callee := .value (.func 16), args := #[.tmp 51], argTypes := _ }, type := _, pos := _, after := _, guard := _ }) rfl (fun K hK => ?_) AllReadyH.nil
          go_simp
          refine Calls.mono (rPresence p4 p5 p6 h4 h5 h6 vq HTq.out) ?_
          rintro e vr ⟨rfl, bx⟩
          have HXr := Lib.hid (HXq.out.below bx HXq.out.lt)
          have HRr := Lib.hid (HRq.out.below bx HRq.out.lt)
          have HBr := Lib.hid (HBq.out.trans (bx.mono HBq.out.size))
          have HTr := Lib.hid (HTq.out.below bx)
          clear bx
          go_wp2_with fail
          refine hK.out _ _ ⟨HXr.out.cell' rfl, HXr.out.cell' rfl, HXr.out.cell' rfl, HXr.out.cell' rfl, HXr.out.cell' rfl, HXr.out.cell' rfl, HXr.out.cell' rfl, HXr.out.cell' rfl⟩ (fun hSr => ?_)
          clear hK K
          try simp only [Act.put, List.setIfInBounds_toArray, List.set_cons_zero, List.set_cons_succ]
          refine wpAnyH_take (i := 15) (oi := { dst := some 53, op := .binOp .add 9 (.tmp 49) (.tmp 52) 9, type := _, pos := _, after := _, guard := _ }) (v := .string ((((((st ++ ⟨#[32]⟩) ++ quoteB uu) ++ ⟨#[58]⟩) ++ presB p1 p2 p3) ++ ⟨#[62]⟩) ++ presB p4 p5 p6)) rfl (by kernel_rfl) (by kernel_rfl) (by kernel_rfl) (fun _ _ _ h => h) (Or.inl ⟨by rfl, ?_⟩) hSr ?_
          · intro w' hSw
            go_simp
            omega
          try simp only [Act.put, List.setIfInBounds_toArray, List.set_cons_zero, List.set_cons_succ]
          refine wpAnyH_take (i := 16) (oi := { dst := some 54, op := .binOp .add 9 (.tmp 53) (.const (.string ⟨#[64]⟩)) 9, type := _, pos := _, after := _, guard := _ }) (v := .string (((((((st ++ ⟨#[32]⟩) ++ quoteB uu) ++ ⟨#[58]⟩) ++ presB p1 p2 p3) ++ ⟨#[62]⟩) ++ presB p4 p5 p6) ++ ⟨#[64]⟩)) rfl (by kernel_rfl) (by kernel_rfl) (by kernel_rfl) (fun _ _ _ h => h) (Or.inl ⟨by rfl, ?_⟩) hSr ?_
          · intro w' hSw
            go_simp
            omega
          try simp only [Act.put, List.setIfInBounds_toArray, List.set_cons_zero, List.set_cons_succ]
          refine wpAnyH_ready (rs := [19]) (by kernel_rfl) (by simp) ?_
          refine AllReadyH.cons (o := { dst := some 57, op := .call { callee := .value (.func 26), args := #[.tmp 56], argTypes := _ }, type := _, pos := _, after := _, guard := _ }) rfl (fun K hK => ?_) AllReadyH.nil
          go_simp
          refine Calls.mono (digitsR sn hsn2 vr) ?_
          rintro e vt ⟨rfl, bx⟩
          have HXt := Lib.hid (HXr.out.below bx HXr.out.lt)
          have HRt := Lib.hid (HRr.out.below bx HRr.out.lt)
          have HBt := Lib.hid (HBr.out.trans (bx.mono HBr.out.size))
          have HTt := Lib.hid (HTr.out.below bx)
          clear bx
          go_wp2_with fail
          refine hK.out _ _ ⟨HXt.out.cell' rfl, HXt.out.cell' rfl, HXt.out.cell' rfl, HXt.out.cell' rfl, HXt.out.cell' rfl, HXt.out.cell' rfl, HXt.out.cell' rfl, HXt.out.cell' rfl⟩ (fun hSt => ?_)
          clear hK K
          try simp only [Act.put, List.setIfInBounds_toArray, List.set_cons_zero, List.set_cons_succ]
          refine wpAnyH_take (i := 20) (oi := { dst := some 58, op := .binOp .add 9 (.tmp 54) (.tmp 57) 9, type := _, pos := _, after := _, guard := _ }) (v := .string ((((((((st ++ ⟨#[32]⟩) ++ quoteB uu) ++ ⟨#[58]⟩) ++ presB p1 p2 p3) ++ ⟨#[62]⟩) ++ presB p4 p5 p6) ++ ⟨#[64]⟩) ++ decB sn)) rfl (by kernel_rfl) (by kernel_rfl) (by kernel_rfl) (fun _ _ _ h => h) (Or.inl ⟨by rfl, ?_⟩) hSt ?_
          · intro w' hSw
            go_simp
            omega
          try simp only [Act.put, List.setIfInBounds_toArray, List.set_cons_zero, List.set_cons_succ]
          refine wpAnyH_take (i := 21) (oi := { dst := some 3, op := .assign (.tmp 58), type := _, pos := _, after := _, guard := _ }) (v := .string ((((((((st ++ ⟨#[32]⟩) ++ quoteB uu) ++ ⟨#[58]⟩) ++ presB p1 p2 p3) ++ ⟨#[62]⟩) ++ presB p4 p5 p6) ++ ⟨#[64]⟩) ++ decB sn)) rfl (by kernel_rfl) (by kernel_rfl) (by kernel_rfl) (fun _ _ _ h => h) (Or.inl ⟨by rfl, ?_⟩) hSt ?_
          · intro w' hSw
            go_simp
          try simp only [Act.put, List.setIfInBounds_toArray, List.set_cons_zero, List.set_cons_succ]
          refine wpAnyH_done (by kernel_rfl) ?_ _
          go_wp2_with fail
          go_roundw
          case rel => exact ⟨k + 1, by omega, by go_num, by rw [HTK.out, ← HST'.out, ev_split]; rfl, HRt.out, HBt.out⟩
          case measure => simp [RowKit.intOf]; omega
        · obtain rfl : k = es.length := by omega
          have d1 : decide ((es.length : Int) < (es.length : Int)) = false := by simp
          rw [List.take_of_length_le (Nat.le_refl _)] at hsz ⊢
          have h5 : (⟨#[32, 108, 111, 115, 116]⟩ : ByteArray).size = 5 := rfl
          cases lost
          · go_wp2_with fail
            go_ret
            exact ⟨rfl, HB.out⟩
          · go_wp2_with fail
            go_ret
            exact ⟨rfl, HB.out⟩
end Opx
end Go.Proofs.YtjllofcfcecfbaaDoor
