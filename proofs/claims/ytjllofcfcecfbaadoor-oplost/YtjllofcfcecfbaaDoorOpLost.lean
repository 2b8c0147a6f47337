/-
  That something was lost is one word more.
-/
import Derived.Test.YtjllofcfcecfbaaDoorOpAwk
import Derived.Test.YtjllofcfcecfbaaDoorOpDecR
import Derived.Test.YtjllofcfcecfbaaDoorOneByte
import Derived.Test.YtjllofcfcecfbaaDoorRoundHeld
import Derived.RegionTactic
import Derived.Deep.DeepCutAuto
import Derived.ChangeAlike
namespace Go.Proofs.YtjllofcfcecfbaaDoor
open Go.RowKit Go.ChangeShapes Go.WideShapes Go.ChangeAt
attribute [local go_sem] Oper.semAt_some
namespace opLost
open Go.Law Opx
set_option maxRecDepth 100000 in
set_option maxHeartbeats 4000000 in
theorem walk (q : RepW) (ee : Int) (hee : 0 ≤ ee ∧ ee ≤ 255) (w : World) (hq : RepRaw q w) (hT : Tabs w) : Calls Tryd.prog 6 #[.agg q.box, .int .u8 ee] w fun e w' => e = .returned (.bool true) ∧ Below w.heap.size w w' := by
  obtain ⟨err, A, cA, vs, E, cE, es, lost⟩ := q
  have bb := (Below.refl w.heap.size w).alloc (Nat.le_refl _) (.cells (RepW.box ⟨err, A, cA, vs, E, cE, es, lost⟩) 36)
  have HX := Lib.hid (Is.new w 36 (RepW.box ⟨err, A, cA, vs, E, cE, es, lost⟩) rfl)
  have HIN := Lib.hid (hq.below bb)
  have HB := Lib.hid bb
  have HTb := Lib.hid (hT.below bb)
  have lv := hq.lv
  have le := hq.le
  unfold maxLen at lv le
  simp only at lv le
  clear hq hT bb
  go_enter Tryd.func6, Tryd.ntmps6
  go_wp2_with fail
  generalize (w.alloc (.cells (RepW.box ⟨err, A, cA, vs, E, cE, es, lost⟩) 36)) = w1 at *
  refine (awake w1 HTb.out).mono ?_
  rintro e w2 ⟨rfl, b2⟩
  have HX2 := Lib.hid (HX.out.below b2 HX.out.lt)
  have HB2 := Lib.hid (HB.out.trans (b2.mono HB.out.size))
  have HT2 := Lib.hid (HTb.out.below b2)
  have HI2 := Lib.hid (HIN.out.below b2)
  clear b2 HX HB HTb HIN
  have x0 : w2.cell? ⟨w.heap.size, 0, none⟩ = some (.int .i64 err) := HX2.out.cell' rfl
  have x1 : w2.cell? ⟨w.heap.size, 1, none⟩ = some (.slice A vs.length cA) := HX2.out.cell' rfl
  have x2 : w2.cell? ⟨w.heap.size, 2, none⟩ = some (.slice E es.length cE) := HX2.out.cell' rfl
  have x3 : w2.cell? ⟨w.heap.size, 3, none⟩ = some (.bool lost) := HX2.out.cell' rfl
  have lx := HX2.out.lt
  by_cases h1 : vs.length ≤ 60
  · have d1 : decide ((60 : Int) < (vs.length : Int)) = false := by simp; omega
    by_cases h2 : es.length ≤ 60
    · have d2 : decide ((60 : Int) < (es.length : Int)) = false := by simp; omega
      go_wp2_with fail
      go_cut [5, 6] (fun s5 s6 wx => ∃ pa pb : Nat, s5 = .pointer (some ⟨pa, 0, none⟩) ∧ s6 = .pointer (some ⟨pb, 0, none⟩) ∧ Is wx pa 36 (RepW.box ⟨err, A, cA, vs, E, cE, es, lost⟩) ∧ Is wx pb 36 (RepW.box ⟨err, A, cA, vs, E, cE, es, lost⟩) ∧ pa ≠ pb ∧ w2.heap.size ≤ pa ∧ w2.heap.size ≤ pb ∧ Below w2.heap.size w2 wx)
      case first =>
        have b1 := (Below.refl w2.heap.size w2).alloc (Nat.le_refl _) (.cells (RepW.box ⟨err, A, cA, vs, E, cE, es, lost⟩) 36)
        have HW := Lib.hid (b1.alloc (by simp) (.cells (RepW.box ⟨err, A, cA, vs, E, cE, es, lost⟩) 36))
        clear b1
        go_region
        all_goals
          go_wp2_with fail
          go_meet
          first
            | refine ⟨_, _, rfl, rfl, Is.drew ((Is.new w2 _ _ rfl).alloc _), Is.drew (Is.new _ _ _ (by simp)), by omega, by omega, by omega, Law.below_drewN HW.out 1⟩
            | refine ⟨_, _, rfl, rfl, Is.drew (Is.new _ _ _ (by simp)), Is.drew ((Is.new w2 _ _ rfl).alloc _), by omega, by omega, by omega, Law.below_drewN HW.out 1⟩
      case rest =>
        obtain ⟨pa, pb, rfl, rfl, ha, hb, hne, la, lb, hB⟩ := hcut
        have hX := HX2.out.below hB HX2.out.lt
        have HBc := Lib.hid hB
        have HA := Lib.hid ha
        have HBb := Lib.hid hb
        have HX5 := Lib.hid hX
        clear ha hb hX hB
        clear x0 x1 x2 x3 HX2
        have a3 : wc.cell? ⟨pa, 3, none⟩ = some (.bool lost) := HA.out.cell' rfl
        have b3 : wc.cell? ⟨pb, 3, none⟩ = some (.bool lost) := HBb.out.cell' rfl
        have fa := HA.out.frozen 3
        have fb := HBb.out.frozen 3
        have hne2 := hne.symm
        have lpa := HA.out.lt
        have lpb := HBb.out.lt
        go_wp2_with fail
        have hwa := HB2.out.size
        have b6 : Below w2.heap.size w2 ((wc.setCell ⟨pa, 3, none⟩ (.bool false)).setCell ⟨pb, 3, none⟩ (.bool true)) := (HBc.out.setCell (p := ⟨pa, 3, none⟩) la _).setCell (p := ⟨pb, 3, none⟩) lb _
        have HBb6 := Lib.hid b6
        have HA6 := Lib.hid (((HA.out.set 3 (.bool false) rfl).far (p := ⟨pb, 3, none⟩) hne (.bool true)))
        have HP6 := Lib.hid ((HBb.out.far (p := ⟨pa, 3, none⟩) hne2 (.bool false)).set 3 (.bool true) rfl)
        have HX6 := Lib.hid ((HX5.out.far (p := ⟨pa, 3, none⟩) (by simp only; omega) (.bool false)).far (p := ⟨pb, 3, none⟩) (by simp only; omega) (.bool true))
        have HI6 := Lib.hid (HI2.out.below b6)
        have HT6 := Lib.hid (HT2.out.below b6)
        have HB6 := Lib.hid (HB2.out.trans (b6.mono HB2.out.size))
        clear b6 HA HBb HX5 HI2 HT2 HBc HB2 a3 b3 fa fb
        generalize (wc.setCell ⟨pa, 3, none⟩ (.bool false)).setCell ⟨pb, 3, none⟩ (.bool true) = w6 at *
        have x2 : w6.cell? ⟨w.heap.size, 2, none⟩ = some (.slice E es.length cE) := HX6.out.cell' rfl
        have lx6 := HX6.out.lt
        go_loop [7] (fun i => ∃ j : Nat, j ≤ es.length ∧ i = .int .i64 j ∧ ∀ e ∈ es.take j, e.us.size ≤ 100) (fun i => es.length - (RowKit.intOf i).toNat)
        case atStart => exact ⟨0, Nat.zero_le _, rfl, by simp⟩
        case round =>
          obtain ⟨j, hj, rfl, ha⟩ := hrel
          have HAl := Lib.hid ha
          clear ha
          by_cases hlt : j < es.length
          · have e1 : decide ((j : Int) < (es.length : Int)) = true := by simp; omega
            obtain ⟨b, off, rfl, _, hb, c0⟩ := Seq.ev HI6.out.es hlt
            obtain ⟨c0, _⟩ := c0
            have HTK := Lib.hid (List.take_succ_eq_append_getElem hlt)
            have hzz := (HI6.out.ev _ (List.getElem_mem hlt)).1
            unfold maxLen at hzz
            generalize es[j] = u at *
            try simp only at c0
            by_cases hu : u.us.size ≤ 100
            · have e2 : decide ((100 : Int) < (u.us.size : Int)) = false := by simp; omega
              go_wp2_with fail
              go_round
              case rel => exact ⟨j + 1, by omega, by go_num, by rw [HTK.out]; intro e he; rcases List.mem_append.1 he with h | h; exact HAl.out e h; obtain rfl := List.mem_singleton.1 h; exact hu⟩
              case measure => simp [RowKit.intOf]; omega
            · have e2 : decide ((100 : Int) < (u.us.size : Int)) = true := by simp; omega
              go_wp2_with fail
              go_ret
              exact ⟨rfl, HB6.out⟩
          · have e1 : decide ((j : Int) < (es.length : Int)) = false := by simp; omega
            rw [List.take_of_length_le (by omega)] at HAl
            have hin : ∀ l, RepW.In ⟨err, A, cA, vs, E, cE, es, l⟩ w6 := fun l => ⟨HI6.out.vs, HI6.out.es, HI6.out.pv, fun p hp => ⟨HAl.out p hp, (HI6.out.ev p hp).2⟩, HI6.out.err, by show vs.length ≤ 400; omega, by show es.length ≤ 400; omega⟩
            have HIN6 := Lib.hid hin
            clear hin
            obtain ⟨sF, hsF⟩ : ∃ s, joinB (toldB ⟨err, A, cA, vs, E, cE, es, false⟩) = s := ⟨_, rfl⟩
            have hsz := told_size (HIN6.out false)
            rw [hsF] at hsz
            have HRF : Hid (∀ W, (∀ l, RepW.In ⟨err, A, cA, vs, E, cE, es, l⟩ W) → Tabs W → Calls Tryd.prog 13 #[.agg #[.int .i64 err, .slice A vs.length cA, .slice E es.length cE, .bool false]] W fun e w' => e = .returned (.string sF) ∧ Below W.heap.size W w') := Lib.hid (fun W h hT => by rw [← hsF]; exact reply ⟨err, A, cA, vs, E, cE, es, false⟩ W (h false) hT)
            have HRT : Hid (∀ W, (∀ l, RepW.In ⟨err, A, cA, vs, E, cE, es, l⟩ W) → Tabs W → Calls Tryd.prog 13 #[.agg #[.int .i64 err, .slice A vs.length cA, .slice E es.length cE, .bool true]] W fun e w' => e = .returned (.string (sF ++ ⟨#[32, 108, 111, 115, 116]⟩)) ∧ Below W.heap.size W w') := Lib.hid (fun W h hT => by rw [← hsF, ← told_lost]; exact reply ⟨err, A, cA, vs, E, cE, es, true⟩ W (h true) hT)
            obtain ⟨k, hk⟩ := Int.eq_ofNat_of_zero_le (show 0 ≤ ee % 10 by omega)
            have hk10 : k < 10 := by omega
            have hm : ee.tmod 10 = (k : Int) := (Int.tmod_eq_emod_of_nonneg hee.1).trans hk
            have hw8 : (48 + (k : Int)).toNat = 48 + k := by omega
            obtain ⟨z8, hz8⟩ : ∃ z8, UInt8.ofNat (48 + k) = z8 := ⟨_, rfl⟩
            have HR0 : Hid (∀ W, Tabs W → Calls Tryd.prog 13 #[.agg #[.int .i64 (k : Int), .slice none 0 0, .slice none 0 0, .bool false]] W fun e w' => e = .returned (.string ⟨#[z8]⟩) ∧ Below W.heap.size W w') := Lib.hid (fun W hT => by rw [← hz8, ← told_err k hk10 none none 0 0]; exact reply ⟨(k : Int), none, 0, [], none, 0, [], false⟩ W ⟨Seq.nil, Seq.nil, (fun _ h => by cases h), (fun _ h => by cases h), ⟨by show -9223372036854775808 ≤ (k : Int); omega, by show (k : Int) ≤ 9223372036854775807; omega⟩, Nat.zero_le _, Nat.zero_le _⟩ hT)
            have HCV : Hid (∀ W g, W.cell? ⟨g, 0, none⟩ = some (.int .u8 (48 + (k : Int))) → (convert 47 9 (.slice (some ⟨g, 0, none⟩) 1 1)).run Tryd.prog W = .ok (.string ⟨#[z8]⟩) W) := Lib.hid (fun W g h => by
              have := Law.one_byte (P := Tryd.prog) (src := 47) (dst := 9) Tryd.underlying47 Tryd.underlying5 Tryd.underlying9 W g 1 (48 + (k : Int)) h
              rw [hw8, hz8] at this
              exact this)
            have hwk1 : IntKind.i64.wrap (k : Int) = (k : Int) := by rw [IntKind.wrap_i64]; omega
            have hwk2 : IntKind.u8.wrap (48 + (k : Int)) = 48 + (k : Int) := by rw [IntKind.wrap_u8]; omega
            clear hsF hk hw8 hz8 HAl
            clear HI6
            go_wp2_with fail
            refine wp_region_held_drew (S := fun w' => w'.cell? ⟨pb, 0, none⟩ = some (.int .i64 err) ∧ w'.cell? ⟨pb, 1, none⟩ = some (.slice A vs.length cA) ∧ w'.cell? ⟨pb, 2, none⟩ = some (.slice E es.length cE) ∧ w'.cell? ⟨pb, 3, none⟩ = some (.bool true) ∧ w'.cell? ⟨pa, 0, none⟩ = some (.int .i64 err) ∧ w'.cell? ⟨pa, 1, none⟩ = some (.slice A vs.length cA) ∧ w'.cell? ⟨pa, 2, none⟩ = some (.slice E es.length cE) ∧ w'.cell? ⟨pa, 3, none⟩ = some (.bool false)) (by kernel_rfl) ⟨HP6.out.cell' rfl, HP6.out.cell' rfl, HP6.out.cell' rfl, HP6.out.cell' rfl, HA6.out.cell' rfl, HA6.out.cell' rfl, HA6.out.cell' rfl, HA6.out.cell' rfl⟩ (fun hS0 => ?_)
            refine wpAnyH_take (i := 0) (oi := { dst := some 42, op := .load 36 (.tmp 6), type := _, pos := _, after := _, guard := _ }) (v := .agg #[.int .i64 err, .slice A vs.length cA, .slice E es.length cE, .bool true]) rfl (by kernel_rfl) (by kernel_rfl) (by kernel_rfl) (fun _ _ _ h => h) (Or.inl ⟨by rfl, ?_⟩) hS0 ?_
            · intro w' hSw
              obtain ⟨s0, s1, s2, s3, s4, s5, s6, s7⟩ := hSw
              go_simp
            try simp only [Act.put, List.setIfInBounds_toArray, List.set_cons_zero, List.set_cons_succ]
            refine wpAnyH_take (i := 2) (oi := { dst := some 44, op := .load 36 (.tmp 5), type := _, pos := _, after := _, guard := _ }) (v := .agg #[.int .i64 err, .slice A vs.length cA, .slice E es.length cE, .bool false]) rfl (by kernel_rfl) (by kernel_rfl) (by kernel_rfl) (fun _ _ _ h => h) (Or.inl ⟨by rfl, ?_⟩) hS0 ?_
            · intro w' hSw
              obtain ⟨s0, s1, s2, s3, s4, s5, s6, s7⟩ := hSw
              go_simp
            try simp only [Act.put, List.setIfInBounds_toArray, List.set_cons_zero, List.set_cons_succ]
            have bd := Law.below_drewN (Below.refl w6.heap.size w6) 1
            have HP7 : Hid (Is w6.drew pb 36 #[.int .i64 err, .slice A vs.length cA, .slice E es.length cE, .bool true]) := HP6.out.drewN 1
            have HA7 : Hid (Is w6.drew pa 36 #[.int .i64 err, .slice A vs.length cA, .slice E es.length cE, .bool false]) := HA6.out.drewN 1
            have HB7 : Hid (Below w.heap.size w w6.drew) := Lib.hid (Law.below_drewN HB6.out 1)
            have HT7 : Hid (Tabs w6.drew) := Lib.hid (HT6.out.below bd)
            have HIN7 : Hid (∀ l, RepW.In ⟨err, A, cA, vs, E, cE, es, l⟩ w6.drew) := Lib.hid (fun l => (HIN6.out l).below bd)
            clear bd
            refine wpAnyH_ready (rs := [1]) (by kernel_rfl) (by simp) ?_
            refine AllReadyH.cons (o := { dst := some 43, op := .call { callee := .value (.func 13), args := #[.tmp 42], argTypes := _ }, type := _, pos := _, after := _, guard := _ }) rfl (fun K hK => ?_) AllReadyH.nil
            go_simp
            refine Calls.mono (HRT.out w6.drew HIN7.out HT7.out) ?_
            rintro e w8 ⟨rfl, b8⟩
            have HP8 := Lib.hid (HP7.out.below b8 HP7.out.lt)
            have HA8 := Lib.hid (HA7.out.below b8 HA7.out.lt)
            have HB8 := Lib.hid (HB7.out.trans (b8.mono HB7.out.size))
            have HT8 := Lib.hid (HT7.out.below b8)
            have HIN8 := Lib.hid (fun l => (HIN7.out l).below b8)
            go_wp2_with fail
            refine hK.out _ _ ⟨HP8.out.cell' rfl, HP8.out.cell' rfl, HP8.out.cell' rfl, HP8.out.cell' rfl, HA8.out.cell' rfl, HA8.out.cell' rfl, HA8.out.cell' rfl, HA8.out.cell' rfl⟩ (fun hS1 => ?_)
            clear hK K
            try simp only [Act.put, List.setIfInBounds_toArray, List.set_cons_zero, List.set_cons_succ]
            refine wpAnyH_ready (rs := [3]) (by kernel_rfl) (by simp) ?_
            refine AllReadyH.cons (o := { dst := some 45, op := .call { callee := .value (.func 13), args := #[.tmp 44], argTypes := _ }, type := _, pos := _, after := _, guard := _ }) rfl (fun K hK => ?_) AllReadyH.nil
            go_simp
            refine Calls.mono (HRF.out w8 HIN8.out HT8.out) ?_
            rintro e w9 ⟨rfl, b9⟩
            have HP9 := Lib.hid (HP8.out.below b9 HP8.out.lt)
            have HA9 := Lib.hid (HA8.out.below b9 HA8.out.lt)
            have HB9 := Lib.hid (HB8.out.trans (b9.mono HB8.out.size))
            have HT9 := Lib.hid (HT8.out.below b9)
            have HIN9 := Lib.hid (fun l => (HIN8.out l).below b9)
            go_wp2_with fail
            refine hK.out _ _ ⟨HP9.out.cell' rfl, HP9.out.cell' rfl, HP9.out.cell' rfl, HP9.out.cell' rfl, HA9.out.cell' rfl, HA9.out.cell' rfl, HA9.out.cell' rfl, HA9.out.cell' rfl⟩ (fun hS2 => ?_)
            clear hK K
            try simp only [Act.put, List.setIfInBounds_toArray, List.set_cons_zero, List.set_cons_succ]
            refine wpAnyH_take (i := 4) (oi := { dst := some 46, op := .binOp .add 9 (.tmp 45) (.const (.string ⟨#[32, 108, 111, 115, 116]⟩)) 9, type := _, pos := _, after := _, guard := _ }) (v := .string (sF ++ ⟨#[32, 108, 111, 115, 116]⟩)) rfl (by kernel_rfl) (by kernel_rfl) (by kernel_rfl) (fun _ _ _ h => h) (Or.inl ⟨by rfl, ?_⟩) hS2 ?_
            · intro w' hSw
              go_simp
              omega
            try simp only [Act.put, List.setIfInBounds_toArray, List.set_cons_zero, List.set_cons_succ]
            refine wpAnyH_take (i := 5) (oi := { dst := some 47, op := .binOp .eql 9 (.tmp 43) (.tmp 46) 9, type := _, pos := _, after := _, guard := _ }) (v := .bool true) rfl (by kernel_rfl) (by kernel_rfl) (by kernel_rfl) (fun _ _ _ h => h) (Or.inl ⟨by rfl, ?_⟩) hS2 ?_
            · intro w' hSw
              go_simp
            try simp only [Act.put, List.setIfInBounds_toArray, List.set_cons_zero, List.set_cons_succ]
            refine wpAnyH_take (i := 6) (oi := { dst := some 48, op := .move (.tmp 47), type := _, pos := _, after := _, guard := _ }) (v := .bool true) rfl (by kernel_rfl) (by kernel_rfl) (by kernel_rfl) (fun _ _ _ h => h) (Or.inl ⟨by rfl, ?_⟩) hS2 ?_
            · intro w' hSw
              go_simp
            try simp only [Act.put, List.setIfInBounds_toArray, List.set_cons_zero, List.set_cons_succ]
            refine wpAnyH_take (i := 7) (oi := { dst := some 49, op := .move (.tmp 1), type := _, pos := _, after := _, guard := _ }) (v := .int .u8 ee) rfl (by kernel_rfl) (by kernel_rfl) (by kernel_rfl) (fun _ _ _ h => h) (Or.inl ⟨by rfl, ?_⟩) hS2 ?_
            · intro w' hSw
              go_simp
            try simp only [Act.put, List.setIfInBounds_toArray, List.set_cons_zero, List.set_cons_succ]
            refine wpAnyH_take (i := 8) (oi := { dst := some 50, op := .binOp .rem 5 (.tmp 49) (.const (.int .u8 10)) 5, type := _, pos := _, after := _, guard := _ }) (v := .int .u8 (k : Int)) rfl (by kernel_rfl) (by kernel_rfl) (by kernel_rfl) (fun _ _ _ h => h) (Or.inl ⟨by rfl, ?_⟩) hS2 ?_
            · intro w' hSw
              go_simp
            try simp only [Act.put, List.setIfInBounds_toArray, List.set_cons_zero, List.set_cons_succ]
            refine wpAnyH_take (i := 9) (oi := { dst := some 51, op := .convert 5 32 (.tmp 50), type := _, pos := _, after := _, guard := _ }) (v := .int .i64 (k : Int)) rfl (by kernel_rfl) (by kernel_rfl) (by kernel_rfl) (fun _ _ _ h => h) (Or.inl ⟨by rfl, ?_⟩) hS2 ?_
            · intro w' hSw
              try exact hwk1
              go_simp
            try simp only [Act.put, List.setIfInBounds_toArray, List.set_cons_zero, List.set_cons_succ]
            refine wpAnyH_take (i := 10) (oi := { dst := some 52, op := .build 36 #[(0, .tmp 51)], type := _, pos := _, after := _, guard := _ }) (v := .agg #[.int .i64 (k : Int), .slice none 0 0, .slice none 0 0, .bool false]) rfl (by kernel_rfl) (by kernel_rfl) (by kernel_rfl) (fun _ _ _ h => h) (Or.inl ⟨by rfl, ?_⟩) hS2 ?_
            · intro w' hSw
              go_simp
            try simp only [Act.put, List.setIfInBounds_toArray, List.set_cons_zero, List.set_cons_succ]
            refine wpAnyH_take (i := 12) (oi := { dst := some 54, op := .move (.tmp 1), type := _, pos := _, after := _, guard := _ }) (v := .int .u8 ee) rfl (by kernel_rfl) (by kernel_rfl) (by kernel_rfl) (fun _ _ _ h => h) (Or.inl ⟨by rfl, ?_⟩) hS2 ?_
            · intro w' hSw
              go_simp
            try simp only [Act.put, List.setIfInBounds_toArray, List.set_cons_zero, List.set_cons_succ]
            refine wpAnyH_take (i := 13) (oi := { dst := some 55, op := .binOp .rem 5 (.tmp 54) (.const (.int .u8 10)) 5, type := _, pos := _, after := _, guard := _ }) (v := .int .u8 (k : Int)) rfl (by kernel_rfl) (by kernel_rfl) (by kernel_rfl) (fun _ _ _ h => h) (Or.inl ⟨by rfl, ?_⟩) hS2 ?_
            · intro w' hSw
              go_simp
            try simp only [Act.put, List.setIfInBounds_toArray, List.set_cons_zero, List.set_cons_succ]
            refine wpAnyH_take (i := 14) (oi := { dst := some 56, op := .binOp .add 5 (.const (.int .u8 48)) (.tmp 55) 5, type := _, pos := _, after := _, guard := _ }) (v := .int .u8 (48 + (k : Int))) rfl (by kernel_rfl) (by kernel_rfl) (by kernel_rfl) (fun _ _ _ h => h) (Or.inl ⟨by rfl, ?_⟩) hS2 ?_
            · intro w' hSw
              try exact hwk2
              go_simp
            try simp only [Act.put, List.setIfInBounds_toArray, List.set_cons_zero, List.set_cons_succ]
            refine wpAnyH_ready (rs := [11, 15]) (by kernel_rfl) (by simp) ?_
            refine AllReadyH.cons (o := { dst := some 53, op := .call { callee := .value (.func 13), args := #[.tmp 52], argTypes := _ }, type := _, pos := _, after := _, guard := _ }) rfl (fun K hK => ?_) ?_
            · go_simp
              refine Calls.mono (HR0.out w9 HT9.out) ?_
              rintro e w10 ⟨rfl, b10⟩
              have HP10 := Lib.hid (HP9.out.below b10 HP9.out.lt)
              have HA10 := Lib.hid (HA9.out.below b10 HA9.out.lt)
              have HB10 := Lib.hid (HB9.out.trans (b10.mono HB9.out.size))
              have HT10 := Lib.hid (HT9.out.below b10)
              have HIN10 := Lib.hid (fun l => (HIN9.out l).below b10)
              go_wp2_with fail
              refine hK.out _ _ ⟨HP10.out.cell' rfl, HP10.out.cell' rfl, HP10.out.cell' rfl, HP10.out.cell' rfl, HA10.out.cell' rfl, HA10.out.cell' rfl, HA10.out.cell' rfl, HA10.out.cell' rfl⟩ (fun hS3 => ?_)
              clear hK K
              try simp only [Act.put, List.setIfInBounds_toArray, List.set_cons_zero, List.set_cons_succ]
              have ba := (Below.refl w10.heap.size w10).alloc (Nat.le_refl _) (.cells #[.int .u8 (48 + (k : Int))] 5)
              have HG11 := Lib.hid ((Is.new w10 5 #[.int .u8 (48 + (k : Int))] rfl).cell' (i := 0) (v := .int .u8 (48 + (k : Int))) rfl)
              have HP11 := Lib.hid (HP10.out.below ba HP10.out.lt)
              have HA11 := Lib.hid (HA10.out.below ba HA10.out.lt)
              have HB11 := Lib.hid (HB10.out.trans (ba.mono HB10.out.size))
              have HT11 := Lib.hid (HT10.out.below ba)
              have HIN11 := Lib.hid (fun l => (HIN10.out l).below ba)
              clear ba
              refine wpAnyH_ready (rs := [15]) (by kernel_rfl) (by simp) ?_
              refine AllReadyH.cons (o := { dst := some 57, op := .buildSlice 47 1 #[(0, .tmp 56)], type := _, pos := _, after := _, guard := _ }) rfl (fun K hK => ?_) AllReadyH.nil
              go_simp
              refine hK.out _ _ ⟨HP11.out.cell' rfl, HP11.out.cell' rfl, HP11.out.cell' rfl, HP11.out.cell' rfl, HA11.out.cell' rfl, HA11.out.cell' rfl, HA11.out.cell' rfl, HA11.out.cell' rfl⟩ (fun hS4 => ?_)
              clear hK K
              try simp only [Act.put, List.setIfInBounds_toArray, List.set_cons_zero, List.set_cons_succ]
              generalize w10.alloc (.cells #[.int .u8 (48 + (k : Int))] 5) = w11 at *
              have hcv := HCV.out w11 w10.heap.size HG11.out
              refine wpAnyH_ready (rs := [16]) (by kernel_rfl) (by simp) ?_
              refine AllReadyH.cons (o := { dst := some 58, op := .convert 47 9 (.tmp 57), type := _, pos := _, after := _, guard := _ }) rfl (fun K hK => ?_) AllReadyH.nil
              go_simp
              refine hK.out _ _ ⟨HP11.out.cell' rfl, HP11.out.cell' rfl, HP11.out.cell' rfl, HP11.out.cell' rfl, HA11.out.cell' rfl, HA11.out.cell' rfl, HA11.out.cell' rfl, HA11.out.cell' rfl⟩ (fun hS5 => ?_)
              clear hK K
              try simp only [Act.put, List.setIfInBounds_toArray, List.set_cons_zero, List.set_cons_succ]
              clear hcv
              refine wpAnyH_take (i := 17) (oi := { dst := some 59, op := .binOp .eql 9 (.tmp 53) (.tmp 58) 9, type := _, pos := _, after := _, guard := _ }) (v := .bool true) rfl (by kernel_rfl) (by kernel_rfl) (by kernel_rfl) (fun _ _ _ h => h) (Or.inl ⟨by rfl, ?_⟩) hS5 ?_
              · intro w' hSw
                go_simp
              try simp only [Act.put, List.setIfInBounds_toArray, List.set_cons_zero, List.set_cons_succ]
              refine wpAnyH_take (i := 18) (oi := { dst := some 60, op := .pick (.tmp 48) (.tmp 59) (.const (.bool false)), type := _, pos := _, after := _, guard := _ }) (v := .bool true) rfl (by kernel_rfl) (by kernel_rfl) (by kernel_rfl) (fun _ _ _ h => h) (Or.inl ⟨by rfl, ?_⟩) hS5 ?_
              · intro w' hSw
                go_simp
              try simp only [Act.put, List.setIfInBounds_toArray, List.set_cons_zero, List.set_cons_succ]
              refine wpAnyH_take (i := 19) (oi := { dst := some 4, op := .assign (.tmp 60), type := _, pos := _, after := _, guard := _ }) (v := .bool true) rfl (by kernel_rfl) (by kernel_rfl) (by kernel_rfl) (fun _ _ _ h => h) (Or.inl ⟨by rfl, ?_⟩) hS5 ?_
              · intro w' hSw
                go_simp
              try simp only [Act.put, List.setIfInBounds_toArray, List.set_cons_zero, List.set_cons_succ]
              refine wpAnyH_done (by kernel_rfl) ?_ _
              go_wp2_with fail
              go_ret
              exact ⟨rfl, HB11.out⟩
            · refine AllReadyH.cons (o := { dst := some 57, op := .buildSlice 47 1 #[(0, .tmp 56)], type := _, pos := _, after := _, guard := _ }) rfl (fun K hK => ?_) AllReadyH.nil
              go_simp
              have ba := (Below.refl w9.heap.size w9).alloc (Nat.le_refl _) (.cells #[.int .u8 (48 + (k : Int))] 5)
              have HG12 := Lib.hid ((Is.new w9 5 #[.int .u8 (48 + (k : Int))] rfl).cell' (i := 0) (v := .int .u8 (48 + (k : Int))) rfl)
              have HP12 := Lib.hid (HP9.out.below ba HP9.out.lt)
              have HA12 := Lib.hid (HA9.out.below ba HA9.out.lt)
              have HB12 := Lib.hid (HB9.out.trans (ba.mono HB9.out.size))
              have HT12 := Lib.hid (HT9.out.below ba)
              have HIN12 := Lib.hid (fun l => (HIN9.out l).below ba)
              clear ba
              refine hK.out _ _ ⟨HP12.out.cell' rfl, HP12.out.cell' rfl, HP12.out.cell' rfl, HP12.out.cell' rfl, HA12.out.cell' rfl, HA12.out.cell' rfl, HA12.out.cell' rfl, HA12.out.cell' rfl⟩ (fun hS6 => ?_)
              clear hK K
              try simp only [Act.put, List.setIfInBounds_toArray, List.set_cons_zero, List.set_cons_succ]
              generalize w9.alloc (.cells #[.int .u8 (48 + (k : Int))] 5) = w12 at *
              refine wpAnyH_ready (rs := [11, 16]) (by kernel_rfl) (by simp) ?_
              refine AllReadyH.cons (o := { dst := some 53, op := .call { callee := .value (.func 13), args := #[.tmp 52], argTypes := _ }, type := _, pos := _, after := _, guard := _ }) rfl (fun K hK => ?_) ?_
              · go_simp
                refine Calls.mono (HR0.out w12 HT12.out) ?_
                rintro e w13 ⟨rfl, b13⟩
                have HP13 := Lib.hid (HP12.out.below b13 HP12.out.lt)
                have HA13 := Lib.hid (HA12.out.below b13 HA12.out.lt)
                have HB13 := Lib.hid (HB12.out.trans (b13.mono HB12.out.size))
                have HT13 := Lib.hid (HT12.out.below b13)
                have HIN13 := Lib.hid (fun l => (HIN12.out l).below b13)
                have HG13 := Lib.hid ((b13.cell (p := ⟨w9.heap.size, 0, none⟩) (World.block_lt_of_cell? _ _ HG12.out)).trans HG12.out)
                go_wp2_with fail
                refine hK.out _ _ ⟨HP13.out.cell' rfl, HP13.out.cell' rfl, HP13.out.cell' rfl, HP13.out.cell' rfl, HA13.out.cell' rfl, HA13.out.cell' rfl, HA13.out.cell' rfl, HA13.out.cell' rfl⟩ (fun hS7 => ?_)
                clear hK K
                try simp only [Act.put, List.setIfInBounds_toArray, List.set_cons_zero, List.set_cons_succ]
                have hcv := HCV.out w13 w9.heap.size HG13.out
                refine wpAnyH_ready (rs := [16]) (by kernel_rfl) (by simp) ?_
                refine AllReadyH.cons (o := { dst := some 58, op := .convert 47 9 (.tmp 57), type := _, pos := _, after := _, guard := _ }) rfl (fun K hK => ?_) AllReadyH.nil
                go_simp
                refine hK.out _ _ ⟨HP13.out.cell' rfl, HP13.out.cell' rfl, HP13.out.cell' rfl, HP13.out.cell' rfl, HA13.out.cell' rfl, HA13.out.cell' rfl, HA13.out.cell' rfl, HA13.out.cell' rfl⟩ (fun hS8 => ?_)
                clear hK K
                try simp only [Act.put, List.setIfInBounds_toArray, List.set_cons_zero, List.set_cons_succ]
                clear hcv
                refine wpAnyH_take (i := 17) (oi := { dst := some 59, op := .binOp .eql 9 (.tmp 53) (.tmp 58) 9, type := _, pos := _, after := _, guard := _ }) (v := .bool true) rfl (by kernel_rfl) (by kernel_rfl) (by kernel_rfl) (fun _ _ _ h => h) (Or.inl ⟨by rfl, ?_⟩) hS8 ?_
                · intro w' hSw
                  go_simp
                try simp only [Act.put, List.setIfInBounds_toArray, List.set_cons_zero, List.set_cons_succ]
                refine wpAnyH_take (i := 18) (oi := { dst := some 60, op := .pick (.tmp 48) (.tmp 59) (.const (.bool false)), type := _, pos := _, after := _, guard := _ }) (v := .bool true) rfl (by kernel_rfl) (by kernel_rfl) (by kernel_rfl) (fun _ _ _ h => h) (Or.inl ⟨by rfl, ?_⟩) hS8 ?_
                · intro w' hSw
                  go_simp
                try simp only [Act.put, List.setIfInBounds_toArray, List.set_cons_zero, List.set_cons_succ]
                refine wpAnyH_take (i := 19) (oi := { dst := some 4, op := .assign (.tmp 60), type := _, pos := _, after := _, guard := _ }) (v := .bool true) rfl (by kernel_rfl) (by kernel_rfl) (by kernel_rfl) (fun _ _ _ h => h) (Or.inl ⟨by rfl, ?_⟩) hS8 ?_
                · intro w' hSw
                  go_simp
                try simp only [Act.put, List.setIfInBounds_toArray, List.set_cons_zero, List.set_cons_succ]
                refine wpAnyH_done (by kernel_rfl) ?_ _
                go_wp2_with fail
                go_ret
                exact ⟨rfl, HB13.out⟩
              · refine AllReadyH.cons (o := { dst := some 58, op := .convert 47 9 (.tmp 57), type := _, pos := _, after := _, guard := _ }) rfl (fun K hK => ?_) AllReadyH.nil
                have hcv := HCV.out w12 w9.heap.size HG12.out
                go_simp
                refine hK.out _ _ ⟨HP12.out.cell' rfl, HP12.out.cell' rfl, HP12.out.cell' rfl, HP12.out.cell' rfl, HA12.out.cell' rfl, HA12.out.cell' rfl, HA12.out.cell' rfl, HA12.out.cell' rfl⟩ (fun hS9 => ?_)
                clear hK K hcv
                try simp only [Act.put, List.setIfInBounds_toArray, List.set_cons_zero, List.set_cons_succ]
                refine wpAnyH_ready (rs := [11]) (by kernel_rfl) (by simp) ?_
                refine AllReadyH.cons (o := { dst := some 53, op := .call { callee := .value (.func 13), args := #[.tmp 52], argTypes := _ }, type := _, pos := _, after := _, guard := _ }) rfl (fun K hK => ?_) AllReadyH.nil
                go_simp
                refine Calls.mono (HR0.out w12 HT12.out) ?_
                rintro e w14 ⟨rfl, b14⟩
                have HP14 := Lib.hid (HP12.out.below b14 HP12.out.lt)
                have HA14 := Lib.hid (HA12.out.below b14 HA12.out.lt)
                have HB14 := Lib.hid (HB12.out.trans (b14.mono HB12.out.size))
                have HT14 := Lib.hid (HT12.out.below b14)
                have HIN14 := Lib.hid (fun l => (HIN12.out l).below b14)
                go_wp2_with fail
                refine hK.out _ _ ⟨HP14.out.cell' rfl, HP14.out.cell' rfl, HP14.out.cell' rfl, HP14.out.cell' rfl, HA14.out.cell' rfl, HA14.out.cell' rfl, HA14.out.cell' rfl, HA14.out.cell' rfl⟩ (fun hS10 => ?_)
                clear hK K
                try simp only [Act.put, List.setIfInBounds_toArray, List.set_cons_zero, List.set_cons_succ]
                refine wpAnyH_take (i := 17) (oi := { dst := some 59, op := .binOp .eql 9 (.tmp 53) (.tmp 58) 9, type := _, pos := _, after := _, guard := _ }) (v := .bool true) rfl (by kernel_rfl) (by kernel_rfl) (by kernel_rfl) (fun _ _ _ h => h) (Or.inl ⟨by rfl, ?_⟩) hS10 ?_
                · intro w' hSw
                  go_simp
                try simp only [Act.put, List.setIfInBounds_toArray, List.set_cons_zero, List.set_cons_succ]
                refine wpAnyH_take (i := 18) (oi := { dst := some 60, op := .pick (.tmp 48) (.tmp 59) (.const (.bool false)), type := _, pos := _, after := _, guard := _ }) (v := .bool true) rfl (by kernel_rfl) (by kernel_rfl) (by kernel_rfl) (fun _ _ _ h => h) (Or.inl ⟨by rfl, ?_⟩) hS10 ?_
                · intro w' hSw
                  go_simp
                try simp only [Act.put, List.setIfInBounds_toArray, List.set_cons_zero, List.set_cons_succ]
                refine wpAnyH_take (i := 19) (oi := { dst := some 4, op := .assign (.tmp 60), type := _, pos := _, after := _, guard := _ }) (v := .bool true) rfl (by kernel_rfl) (by kernel_rfl) (by kernel_rfl) (fun _ _ _ h => h) (Or.inl ⟨by rfl, ?_⟩) hS10 ?_
                · intro w' hSw
                  go_simp
                try simp only [Act.put, List.setIfInBounds_toArray, List.set_cons_zero, List.set_cons_succ]
                refine wpAnyH_done (by kernel_rfl) ?_ _
                go_wp2_with fail
                go_ret
                exact ⟨rfl, HB14.out⟩
    · have d2 : decide ((60 : Int) < (es.length : Int)) = true := by simp; omega
      go_wp2_with fail
      refine (awake w2 HT2.out).mono ?_
      rintro e w4 ⟨rfl, bx⟩
      have HB4 := Lib.hid (HB2.out.trans (bx.mono HB2.out.size))
      clear bx
      go_wp2_with fail
      go_ret
      exact ⟨rfl, HB4.out⟩
  · have d1 : decide ((60 : Int) < (vs.length : Int)) = true := by simp; omega
    go_wp2_with fail
    refine (awake w2 HT2.out).mono ?_
    rintro e w4 ⟨rfl, bx⟩
    have HB4 := Lib.hid (HB2.out.trans (bx.mono HB2.out.size))
    clear bx
    go_wp2_with fail
    go_ret
    exact ⟨rfl, HB4.out⟩
set_option maxRecDepth 100000 in
set_option maxHeartbeats 4000000 in
theorem lifted (os : Os) (started : os.Started) (H : Type) (enc : TypeId × Value → H) :
    ReturnsInHanded {} Tryd.checked os 6 .any (fun w args => (Rows.opLostSpec.pre enc Tryd.prog Tryd.f6 [] false w args ∧ laidMetH Tryd.prog Rows.opLostRow.laid w) ∧ sizedMet enc Tryd.prog Tryd.f6 (OpenSpec.ofChange Rows.opLostSpec) false w args) (Rows.opLostSpec.post enc Tryd.prog Tryd.f6 false true false false) := by
  refine returnsInHanded_of_change_and (C := Tryd.checked) (X := (fun w _ => laidMetH Tryd.prog Rows.opLostRow.laid w)) (fun _ _ _ hh h => h.of_heap hh) own started (by kernel_rfl) Tryd.func6
    (ChangeSpec.witness_shaped (enc := enc) (C := Tryd.checked) (os := os) (X := (fun w _ => laidMetH Tryd.prog Rows.opLostRow.laid w)) false (World.laidAll Tryd.prog os Rows.opLostRow.laid) #[.agg #[.int .i64 0, .slice none 0 0, .slice none 0 0, .bool false], .int .u8 0] 8 (World.laidAll_os _ _ _)
      (World.shaped_of_ZipB (by kernel_rfl) (by kernel_rfl)) (by kernel_rfl) (by kernel_rfl) (by kernel_rfl)
      (by rw [MakeChecks.laidMetH_plain _ _ _ (by kernel_rfl)]; exact laidMet_laidAll _ (by kernel_rfl) (by kernel_rfl))) ?_
  intro W base args ds gs before hval0 hW _ _ hL _
  have hval : ∀ (j : Nat) t v, Tryd.f6.params[j]? = some t → args[j]? = some v → Value.okWide Tryd.prog W .any base t v := hval0
  have hW' := hW
  obtain ⟨p, q, hA0, hV, rfl, hfz, hnd⟩ := hW
  have hA : DataW.TrodAll enc Tryd.prog W 0 (fun _ => true) true Tryd.f6.params.toList args.toList ds p := hA0
  rw [Tryd.params6] at hA hval
  obtain ⟨v0, vs0, d0, ds0, p0, q0, hargs, rfl, rfl, h0, r0⟩ := trodAll_cons hA
  obtain ⟨v1, vs1, d1, ds1, p1, q1, rfl, rfl, rfl, h1, r1⟩ := trodAll_cons r0
  obtain ⟨rfl, rfl, rfl⟩ := trodAll_nil r1
  obtain rfl : args = #[v0, v1] := by cases args; simp_all
  obtain ⟨q, rfl, hq⟩ := open_rep (hval 0 36 v0 rfl rfl) h0
  obtain ⟨a1, rfl, rfl, rfl, w1⟩ := open_int Tryd.underlying5 (hval 1 5 v1 rfl rfl) h1
  rw [MakeChecks.laidMetH_plain _ _ _ (by kernel_rfl)] at hL
  have HTb := Opx.tabs_of hL
  refine (walk q a1 (by have := bounds_u8 w1; omega) W hq HTb).mono fun e W' ⟨he, bel⟩ => ?_
  subst he
  exact ⟨_, rfl, Law.post_law laidOut (by kernel_rfl) (by kernel_rfl) Tryd.underlying4 rfl (fun ds h => by match ds, h with | [_, _], _ => rfl) hW' bel⟩
theorem holds : Rows.OpLostSaid :=
  OpenClaim.holds_of_wide 6 Tryd.f6 rfl rfl rfl rfl rfl rfl rfl ⟨rfl, rfl, rfl, rfl, rfl⟩ rfl rfl rfl rfl rfl (by kernel_rfl) Tryd.func6 (by kernel_rfl)
    (of_decide_eq_true (by kernel_rfl)) (by unfold Func.isWrapper; first | (rw [if_pos (by decide +kernel)]; kernel_rfl) | (rw [if_neg (by decide +kernel)]; exact ⟨rfl, rfl⟩))
    (fun os started H enc _ => lifted os started H enc)
theorem proved : Rows.OpLostCardSaid :=
  Claim7.holds_tied_plain_at .later [] [.data, .data, .data, .data, .data, .pinned, .pinned, .pinned, .pinned, .pinned, .pinned] true (true, "e0587f967aa7f4d95d833c96f1390b2fa1cf91158ae5b78b86fc9c5f381e3e5e") false holds (fun _ h => by cases h) (by kernel_rfl) (fun _ h => by cases h) opLost_row_tie rfl ⟨rfl, rfl⟩ (by kernel_rfl) rfl
    (fun f fn hf hfn => by
      obtain rfl : f = 6 := Option.some.inj ((show Tryd.prog.funcNamed Rows.opLostRow.func = some 6 by kernel_rfl).symm.trans hf) |>.symm
      obtain rfl : fn = Tryd.f6 := (Option.some.inj (Tryd.func6.symm.trans hfn)).symm
      exact ⟨by kernel_rfl, fun j t ht => by
        rw [Tryd.params6] at ht
        have hm : t ∈ [36, 5] := by simpa using Array.mem_of_getElem? ht
        have hall : ([36, 5].all fun u => !Tryd.prog.wantsStandIn u) = true := by kernel_rfl
        exact (show Tryd.prog.wantsStandIn t = false by simpa using List.all_eq_true.1 hall t hm)⟩)
    (by kernel_rfl)
#print axioms proved
end opLost
end Go.Proofs.YtjllofcfcecfbaaDoor
