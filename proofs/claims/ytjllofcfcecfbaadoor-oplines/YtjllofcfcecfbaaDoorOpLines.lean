/-
  Any op's line, and any kind's name, are the document's.
-/
import Derived.Test.YtjllofcfcecfbaaDoorOpAwk
import Derived.Test.YtjllofcfcecfbaaDoorOpRefL
import Derived.ChangeAlike
namespace Go.Proofs.YtjllofcfcecfbaaDoor
open Go.RowKit Go.ChangeShapes Go.WideShapes Go.ChangeAt
attribute [local go_sem] Oper.semAt_some
namespace opLines
open Go.Law Opx
set_option maxRecDepth 100000 in
set_option maxHeartbeats 4000000 in
theorem walk (q : OpW) (kind : Int) (w : World) (hq : q.In w) (hT : Tabs w) : Calls Tryd.prog 3 #[.agg q.box, .int .i64 kind] w fun e w' => e = .returned (.bool true) ∧ Below w.heap.size w w' := by
  obtain ⟨kd, user, id, st, pr, ttl, A, c, us⟩ := q
  have bb := (Below.refl w.heap.size w).alloc (Nat.le_refl _) (.cells #[.int .i64 kd, .string user, .int .i64 id, .int .i64 st, .int .i64 pr, .int .u64 ttl, .slice A us.length c] 25)
  have HX := Lib.hid (Is.new w 25 #[.int .i64 kd, .string user, .int .i64 id, .int .i64 st, .int .i64 pr, .int .u64 ttl, .slice A us.length c] rfl)
  have HIN := Lib.hid (hq.below bb)
  have HB := Lib.hid bb
  have HTb := Lib.hid (hT.below bb)
  clear hq hT bb
  go_enter Tryd.func3, Tryd.ntmps3
  go_wp2_with fail
  generalize w.alloc (.cells #[.int .i64 kd, .string user, .int .i64 id, .int .i64 st, .int .i64 pr, .int .u64 ttl, .slice A us.length c] 25) = w1 at *
  refine (awake w1 HTb.out).mono ?_
  rintro e w2 ⟨rfl, bx⟩
  have HX2 := Lib.hid (HX.out.below bx HX.out.lt)
  have HB2 := Lib.hid (HB.out.trans (bx.mono HB.out.size))
  have HTb2 := Lib.hid (HTb.out.below bx)
  have HIN2 := Lib.hid (HIN.out.below bx)
  clear bx HX HB HTb HIN
  have x0 : w2.cell? ⟨w.heap.size, 0, none⟩ = some (.int .i64 kd) := HX2.out.cell' rfl
  have x1 : w2.cell? ⟨w.heap.size, 1, none⟩ = some (.string user) := HX2.out.cell' rfl
  have x2 : w2.cell? ⟨w.heap.size, 2, none⟩ = some (.int .i64 id) := HX2.out.cell' rfl
  have x3 : w2.cell? ⟨w.heap.size, 3, none⟩ = some (.int .i64 st) := HX2.out.cell' rfl
  have x4 : w2.cell? ⟨w.heap.size, 4, none⟩ = some (.int .i64 pr) := HX2.out.cell' rfl
  have x5 : w2.cell? ⟨w.heap.size, 5, none⟩ = some (.int .u64 ttl) := HX2.out.cell' rfl
  have x6 : w2.cell? ⟨w.heap.size, 6, none⟩ = some (.slice A us.length c) := HX2.out.cell' rfl
  have lx := HX2.out.lt
  cases hsh : shortB ⟨kd, user, id, st, pr, ttl, A, c, us⟩ with
  | false =>
    go_wp2_with fail
    refine (short ⟨kd, user, id, st, pr, ttl, A, c, us⟩ HIN2.out hsh).mono ?_
    rintro e w3 ⟨rfl, bx⟩
    have HX3 := Lib.hid (HX2.out.below bx HX2.out.lt)
    have HB3 := Lib.hid (HB2.out.trans (bx.mono HB2.out.size))
    have HTb3 := Lib.hid (HTb2.out.below bx)
    have HIN3 := Lib.hid (HIN2.out.below bx)
    clear bx HX2 HB2 HTb2 HIN2
    go_wp2_with fail
    refine (awake w3 HTb3.out).mono ?_
    rintro e w4 ⟨rfl, bx⟩
    have HB4 := Lib.hid (HB3.out.trans (bx.mono HB3.out.size))
    clear bx
    go_wp2_with fail
    go_ret
    exact ⟨rfl, HB4.out⟩
  | true =>
    go_wp2_with fail
    refine (short ⟨kd, user, id, st, pr, ttl, A, c, us⟩ HIN2.out hsh).mono ?_
    rintro e w3 ⟨rfl, bx⟩
    have HX3 := Lib.hid (HX2.out.below bx HX2.out.lt)
    have HB3 := Lib.hid (HB2.out.trans (bx.mono HB2.out.size))
    have HTb3 := Lib.hid (HTb2.out.below bx)
    have HIN3 := Lib.hid (HIN2.out.below bx)
    clear bx HX2 HB2 HTb2 HIN2
    clear x0 x1 x2 x3 x4 x5 x6 lx
    obtain ⟨sL, hsL⟩ : ∃ s, lineB ⟨kd, user, id, st, pr, ttl, A, c, us⟩ = s := ⟨_, rfl⟩
    have HL1 : Hid (∀ W, OpW.In ⟨kd, user, id, st, pr, ttl, A, c, us⟩ W → Tabs W → Calls Tryd.prog 10 #[.agg #[.int .i64 kd, .string user, .int .i64 id, .int .i64 st, .int .i64 pr, .int .u64 ttl, .slice A us.length c]] W fun e w' => e = .returned (.string sL) ∧ Below W.heap.size W w') := Lib.hid (fun W h hT => by rw [← hsL]; exact line ⟨kd, user, id, st, pr, ttl, A, c, us⟩ hsh W h hT)
    have HL2 : Hid (∀ W, OpW.In ⟨kd, user, id, st, pr, ttl, A, c, us⟩ W → Tabs W → Calls Tryd.prog 11 #[.agg #[.int .i64 kd, .string user, .int .i64 id, .int .i64 st, .int .i64 pr, .int .u64 ttl, .slice A us.length c]] W fun e w' => e = .returned (.string sL) ∧ Below W.heap.size W w') := Lib.hid (fun W h hT => by rw [← hsL]; exact rLine ⟨kd, user, id, st, pr, ttl, A, c, us⟩ hsh W h hT)
    have HNM : Hid (∀ W, Tabs W → Calls Tryd.prog 12 #[.int .i64 kind] W fun e w' => e = .returned (.string (kindB kind)) ∧ Below W.heap.size W w') := Lib.hid (fun W hT => name_ kind W hT rfl)
    clear hsL hsh
    by_cases k0 : 0 ≤ kind
    · have f0 : decide (0 ≤ kind) = true := decide_eq_true k0
      by_cases k1 : kind < 10
      · have f1 : decide (kind < 10) = true := decide_eq_true k1
        obtain ⟨k, rfl⟩ := Int.eq_ofNat_of_zero_le k0
        have hk : k < 10 := by omega
        have hna := name_at k hk
        generalize kindB (k : Int) = nm at *
        go_wp2_with fail
        refine (rNames w3).mono ?_
        rintro e w5 ⟨D, rfl, hD, bx⟩
        have HX5 := Lib.hid (HX3.out.below bx HX3.out.lt)
        have HB5 := Lib.hid (HB3.out.trans (bx.mono HB3.out.size))
        have HTb5 := Lib.hid (HTb3.out.below bx)
        have HIN5 := Lib.hid (HIN3.out.below bx)
        have cD := hD k nm hna
        have lD := World.block_lt_of_cell? _ _ cD
        simp only at lD
        clear bx hD hna
        have x0 : w5.cell? ⟨w.heap.size, 0, none⟩ = some (.int .i64 kd) := HX5.out.cell' rfl
        have x1 : w5.cell? ⟨w.heap.size, 1, none⟩ = some (.string user) := HX5.out.cell' rfl
        have x2 : w5.cell? ⟨w.heap.size, 2, none⟩ = some (.int .i64 id) := HX5.out.cell' rfl
        have x3 : w5.cell? ⟨w.heap.size, 3, none⟩ = some (.int .i64 st) := HX5.out.cell' rfl
        have x4 : w5.cell? ⟨w.heap.size, 4, none⟩ = some (.int .i64 pr) := HX5.out.cell' rfl
        have x5 : w5.cell? ⟨w.heap.size, 5, none⟩ = some (.int .u64 ttl) := HX5.out.cell' rfl
        have x6 : w5.cell? ⟨w.heap.size, 6, none⟩ = some (.slice A us.length c) := HX5.out.cell' rfl
        have lx := HX5.out.lt
        go_wp2_with fail
        refine wp_region_held_drew (S := fun w' => w'.cell? ⟨w.heap.size, 0, none⟩ = some (.int .i64 kd) ∧ w'.cell? ⟨w.heap.size, 1, none⟩ = some (.string user) ∧ w'.cell? ⟨w.heap.size, 2, none⟩ = some (.int .i64 id) ∧ w'.cell? ⟨w.heap.size, 3, none⟩ = some (.int .i64 st) ∧ w'.cell? ⟨w.heap.size, 4, none⟩ = some (.int .i64 pr) ∧ w'.cell? ⟨w.heap.size, 5, none⟩ = some (.int .u64 ttl) ∧ w'.cell? ⟨w.heap.size, 6, none⟩ = some (.slice A us.length c)) (by kernel_rfl) ⟨x0, x1, x2, x3, x4, x5, x6⟩ (fun hS0 => ?_)
        refine wpAnyH_take (i := 0) (oi := { dst := some 24, op := .load 25 (.tmp 2), type := _, pos := _, after := _, guard := _ }) (v := .agg #[.int .i64 kd, .string user, .int .i64 id, .int .i64 st, .int .i64 pr, .int .u64 ttl, .slice A us.length c]) rfl (by kernel_rfl) (by kernel_rfl) (by kernel_rfl) (fun _ _ _ h => h) (Or.inl ⟨by rfl, ?_⟩) hS0 ?_
        · intro w' hSw
          obtain ⟨s0, s1, s2, s3, s4, s5, s6⟩ := hSw
          go_simp
        try simp only [Act.put, List.setIfInBounds_toArray, List.set_cons_zero, List.set_cons_succ]
        refine wpAnyH_take (i := 2) (oi := { dst := some 26, op := .load 25 (.tmp 2), type := _, pos := _, after := _, guard := _ }) (v := .agg #[.int .i64 kd, .string user, .int .i64 id, .int .i64 st, .int .i64 pr, .int .u64 ttl, .slice A us.length c]) rfl (by kernel_rfl) (by kernel_rfl) (by kernel_rfl) (fun _ _ _ h => h) (Or.inl ⟨by rfl, ?_⟩) hS0 ?_
        · intro w' hSw
          obtain ⟨s0, s1, s2, s3, s4, s5, s6⟩ := hSw
          go_simp
        try simp only [Act.put, List.setIfInBounds_toArray, List.set_cons_zero, List.set_cons_succ]
        have bd := Law.below_drewN (Below.refl w5.heap.size w5) 1
        have HXt7 : Hid (Is w5.drew w.heap.size 25 #[.int .i64 kd, .string user, .int .i64 id, .int .i64 st, .int .i64 pr, .int .u64 ttl, .slice A us.length c]) := HX5.out.drewN 1
        have HBt7 : Hid (Below w.heap.size w w5.drew) := Lib.hid (Law.below_drewN HB5.out 1)
        have HTbt7 : Hid (Tabs w5.drew) := Lib.hid (HTb5.out.below bd)
        have HINt7 : Hid (OpW.In ⟨kd, user, id, st, pr, ttl, A, c, us⟩ w5.drew) := Lib.hid (HIN5.out.below bd)
        clear bd
        refine wpAnyH_ready (rs := [1]) (by kernel_rfl) (by simp) ?_
        refine AllReadyH.cons (o := { dst := some 25, op := .call { callee := .value (.func 10), args := #[.tmp 24], argTypes := _ }, type := _, pos := _, after := _, guard := _ }) rfl (fun K hK => ?_) AllReadyH.nil
        go_simp
        refine Calls.mono (HL1.out w5.drew HINt7.out HTbt7.out) ?_
        rintro e wp ⟨rfl, bx⟩
        have HXt8 := Lib.hid (HXt7.out.below bx HXt7.out.lt)
        have HBt8 := Lib.hid (HBt7.out.trans (bx.mono HBt7.out.size))
        have HTbt8 := Lib.hid (HTbt7.out.below bx)
        have HINt8 := Lib.hid (HINt7.out.below bx)
        clear bx
        go_wp2_with fail
        refine hK.out _ _ ⟨HXt8.out.cell' rfl, HXt8.out.cell' rfl, HXt8.out.cell' rfl, HXt8.out.cell' rfl, HXt8.out.cell' rfl, HXt8.out.cell' rfl, HXt8.out.cell' rfl⟩ (fun hS1 => ?_)
        clear hK K
        try simp only [Act.put, List.setIfInBounds_toArray, List.set_cons_zero, List.set_cons_succ]
        refine wpAnyH_ready (rs := [3]) (by kernel_rfl) (by simp) ?_
        refine AllReadyH.cons (o := { dst := some 27, op := .call { callee := .value (.func 11), args := #[.tmp 26], argTypes := _ }, type := _, pos := _, after := _, guard := _ }) rfl (fun K hK => ?_) AllReadyH.nil
        go_simp
        refine Calls.mono (HL2.out wp HINt8.out HTbt8.out) ?_
        rintro e wq ⟨rfl, bx⟩
        have HXt9 := Lib.hid (HXt8.out.below bx HXt8.out.lt)
        have HBt9 := Lib.hid (HBt8.out.trans (bx.mono HBt8.out.size))
        have HTbt9 := Lib.hid (HTbt8.out.below bx)
        have HINt9 := Lib.hid (HINt8.out.below bx)
        clear bx
        go_wp2_with fail
        refine hK.out _ _ ⟨HXt9.out.cell' rfl, HXt9.out.cell' rfl, HXt9.out.cell' rfl, HXt9.out.cell' rfl, HXt9.out.cell' rfl, HXt9.out.cell' rfl, HXt9.out.cell' rfl⟩ (fun hS2 => ?_)
        clear hK K
        try simp only [Act.put, List.setIfInBounds_toArray, List.set_cons_zero, List.set_cons_succ]
        refine wpAnyH_take (i := 4) (oi := { dst := some 28, op := .binOp .eql 9 (.tmp 25) (.tmp 27) 9, type := _, pos := _, after := _, guard := _ }) (v := .bool true) rfl (by kernel_rfl) (by kernel_rfl) (by kernel_rfl) (fun _ _ _ h => h) (Or.inl ⟨by rfl, ?_⟩) hS2 ?_
        · intro w' hSw
          go_simp
        try simp only [Act.put, List.setIfInBounds_toArray, List.set_cons_zero, List.set_cons_succ]
        refine wpAnyH_take (i := 5) (oi := { dst := some 29, op := .move (.tmp 28), type := _, pos := _, after := _, guard := _ }) (v := .bool true) rfl (by kernel_rfl) (by kernel_rfl) (by kernel_rfl) (fun _ _ _ h => h) (Or.inl ⟨by rfl, ?_⟩) hS2 ?_
        · intro w' hSw
          go_simp
        try simp only [Act.put, List.setIfInBounds_toArray, List.set_cons_zero, List.set_cons_succ]
        refine wpAnyH_take (i := 6) (oi := { dst := some 30, op := .move (.tmp 1), type := _, pos := _, after := _, guard := _ }) (v := .int .i64 (k : Int)) rfl (by kernel_rfl) (by kernel_rfl) (by kernel_rfl) (fun _ _ _ h => h) (Or.inl ⟨by rfl, ?_⟩) hS2 ?_
        · intro w' hSw
          go_simp
        try simp only [Act.put, List.setIfInBounds_toArray, List.set_cons_zero, List.set_cons_succ]
        refine wpAnyH_take (i := 8) (oi := { dst := some 32, op := .move (.tmp 5), type := _, pos := _, after := _, guard := _ }) (v := .string (nm)) rfl (by kernel_rfl) (by kernel_rfl) (by kernel_rfl) (fun _ _ _ h => h) (Or.inl ⟨by rfl, ?_⟩) hS2 ?_
        · intro w' hSw
          go_simp
        try simp only [Act.put, List.setIfInBounds_toArray, List.set_cons_zero, List.set_cons_succ]
        refine wpAnyH_ready (rs := [7]) (by kernel_rfl) (by simp) ?_
        refine AllReadyH.cons (o := { dst := some 31, op := .call { callee := .value (.func 12), args := #[.tmp 30], argTypes := _ }, type := _, pos := _, after := _, guard := _ }) rfl (fun K hK => ?_) AllReadyH.nil
        go_simp
        refine Calls.mono (HNM.out wq HTbt9.out) ?_
        rintro e wr ⟨rfl, bx⟩
        have HXta := Lib.hid (HXt9.out.below bx HXt9.out.lt)
        have HBta := Lib.hid (HBt9.out.trans (bx.mono HBt9.out.size))
        have HTbta := Lib.hid (HTbt9.out.below bx)
        have HINta := Lib.hid (HINt9.out.below bx)
        clear bx
        go_wp2_with fail
        refine hK.out _ _ ⟨HXta.out.cell' rfl, HXta.out.cell' rfl, HXta.out.cell' rfl, HXta.out.cell' rfl, HXta.out.cell' rfl, HXta.out.cell' rfl, HXta.out.cell' rfl⟩ (fun hS3 => ?_)
        clear hK K
        try simp only [Act.put, List.setIfInBounds_toArray, List.set_cons_zero, List.set_cons_succ]
        refine wpAnyH_take (i := 9) (oi := { dst := some 33, op := .binOp .eql 9 (.tmp 31) (.tmp 32) 9, type := _, pos := _, after := _, guard := _ }) (v := .bool true) rfl (by kernel_rfl) (by kernel_rfl) (by kernel_rfl) (fun _ _ _ h => h) (Or.inl ⟨by rfl, ?_⟩) hS3 ?_
        · intro w' hSw
          go_simp
        try simp only [Act.put, List.setIfInBounds_toArray, List.set_cons_zero, List.set_cons_succ]
        refine wpAnyH_take (i := 10) (oi := { dst := some 34, op := .pick (.tmp 29) (.tmp 33) (.const (.bool false)), type := _, pos := _, after := _, guard := _ }) (v := .bool true) rfl (by kernel_rfl) (by kernel_rfl) (by kernel_rfl) (fun _ _ _ h => h) (Or.inl ⟨by rfl, ?_⟩) hS3 ?_
        · intro w' hSw
          go_simp
        try simp only [Act.put, List.setIfInBounds_toArray, List.set_cons_zero, List.set_cons_succ]
        refine wpAnyH_take (i := 11) (oi := { dst := some 4, op := .assign (.tmp 34), type := _, pos := _, after := _, guard := _ }) (v := .bool true) rfl (by kernel_rfl) (by kernel_rfl) (by kernel_rfl) (fun _ _ _ h => h) (Or.inl ⟨by rfl, ?_⟩) hS3 ?_
        · intro w' hSw
          go_simp
        try simp only [Act.put, List.setIfInBounds_toArray, List.set_cons_zero, List.set_cons_succ]
        refine wpAnyH_done (by kernel_rfl) ?_ _
        go_wp2_with fail
        go_ret
        exact ⟨rfl, HBta.out⟩
      · have f1 : decide (kind < 10) = false := decide_eq_false k1
        have hkb : kindB kind = ⟨#[]⟩ := by unfold kindB; rw [if_neg (by omega)]
        rw [hkb] at HNM
        have x0 : w3.cell? ⟨w.heap.size, 0, none⟩ = some (.int .i64 kd) := HX3.out.cell' rfl
        have x1 : w3.cell? ⟨w.heap.size, 1, none⟩ = some (.string user) := HX3.out.cell' rfl
        have x2 : w3.cell? ⟨w.heap.size, 2, none⟩ = some (.int .i64 id) := HX3.out.cell' rfl
        have x3 : w3.cell? ⟨w.heap.size, 3, none⟩ = some (.int .i64 st) := HX3.out.cell' rfl
        have x4 : w3.cell? ⟨w.heap.size, 4, none⟩ = some (.int .i64 pr) := HX3.out.cell' rfl
        have x5 : w3.cell? ⟨w.heap.size, 5, none⟩ = some (.int .u64 ttl) := HX3.out.cell' rfl
        have x6 : w3.cell? ⟨w.heap.size, 6, none⟩ = some (.slice A us.length c) := HX3.out.cell' rfl
        have lx := HX3.out.lt
        go_wp2_with fail
        refine wp_region_held_drew (S := fun w' => w'.cell? ⟨w.heap.size, 0, none⟩ = some (.int .i64 kd) ∧ w'.cell? ⟨w.heap.size, 1, none⟩ = some (.string user) ∧ w'.cell? ⟨w.heap.size, 2, none⟩ = some (.int .i64 id) ∧ w'.cell? ⟨w.heap.size, 3, none⟩ = some (.int .i64 st) ∧ w'.cell? ⟨w.heap.size, 4, none⟩ = some (.int .i64 pr) ∧ w'.cell? ⟨w.heap.size, 5, none⟩ = some (.int .u64 ttl) ∧ w'.cell? ⟨w.heap.size, 6, none⟩ = some (.slice A us.length c)) (by kernel_rfl) ⟨x0, x1, x2, x3, x4, x5, x6⟩ (fun hS0 => ?_)
        refine wpAnyH_take (i := 0) (oi := { dst := some 24, op := .load 25 (.tmp 2), type := _, pos := _, after := _, guard := _ }) (v := .agg #[.int .i64 kd, .string user, .int .i64 id, .int .i64 st, .int .i64 pr, .int .u64 ttl, .slice A us.length c]) rfl (by kernel_rfl) (by kernel_rfl) (by kernel_rfl) (fun _ _ _ h => h) (Or.inl ⟨by rfl, ?_⟩) hS0 ?_
        · intro w' hSw
          obtain ⟨s0, s1, s2, s3, s4, s5, s6⟩ := hSw
          go_simp
        try simp only [Act.put, List.setIfInBounds_toArray, List.set_cons_zero, List.set_cons_succ]
        refine wpAnyH_take (i := 2) (oi := { dst := some 26, op := .load 25 (.tmp 2), type := _, pos := _, after := _, guard := _ }) (v := .agg #[.int .i64 kd, .string user, .int .i64 id, .int .i64 st, .int .i64 pr, .int .u64 ttl, .slice A us.length c]) rfl (by kernel_rfl) (by kernel_rfl) (by kernel_rfl) (fun _ _ _ h => h) (Or.inl ⟨by rfl, ?_⟩) hS0 ?_
        · intro w' hSw
          obtain ⟨s0, s1, s2, s3, s4, s5, s6⟩ := hSw
          go_simp
        try simp only [Act.put, List.setIfInBounds_toArray, List.set_cons_zero, List.set_cons_succ]
        have bd := Law.below_drewN (Below.refl w3.heap.size w3) 1
        have HXu7 : Hid (Is w3.drew w.heap.size 25 #[.int .i64 kd, .string user, .int .i64 id, .int .i64 st, .int .i64 pr, .int .u64 ttl, .slice A us.length c]) := HX3.out.drewN 1
        have HBu7 : Hid (Below w.heap.size w w3.drew) := Lib.hid (Law.below_drewN HB3.out 1)
        have HTbu7 : Hid (Tabs w3.drew) := Lib.hid (HTb3.out.below bd)
        have HINu7 : Hid (OpW.In ⟨kd, user, id, st, pr, ttl, A, c, us⟩ w3.drew) := Lib.hid (HIN3.out.below bd)
        clear bd
        refine wpAnyH_ready (rs := [1]) (by kernel_rfl) (by simp) ?_
        refine AllReadyH.cons (o := { dst := some 25, op := .call { callee := .value (.func 10), args := #[.tmp 24], argTypes := _ }, type := _, pos := _, after := _, guard := _ }) rfl (fun K hK => ?_) AllReadyH.nil
        go_simp
        refine Calls.mono (HL1.out w3.drew HINu7.out HTbu7.out) ?_
        rintro e wp ⟨rfl, bx⟩
        have HXu8 := Lib.hid (HXu7.out.below bx HXu7.out.lt)
        have HBu8 := Lib.hid (HBu7.out.trans (bx.mono HBu7.out.size))
        have HTbu8 := Lib.hid (HTbu7.out.below bx)
        have HINu8 := Lib.hid (HINu7.out.below bx)
        clear bx
        go_wp2_with fail
        refine hK.out _ _ ⟨HXu8.out.cell' rfl, HXu8.out.cell' rfl, HXu8.out.cell' rfl, HXu8.out.cell' rfl, HXu8.out.cell' rfl, HXu8.out.cell' rfl, HXu8.out.cell' rfl⟩ (fun hS1 => ?_)
        clear hK K
        try simp only [Act.put, List.setIfInBounds_toArray, List.set_cons_zero, List.set_cons_succ]
        refine wpAnyH_ready (rs := [3]) (by kernel_rfl) (by simp) ?_
        refine AllReadyH.cons (o := { dst := some 27, op := .call { callee := .value (.func 11), args := #[.tmp 26], argTypes := _ }, type := _, pos := _, after := _, guard := _ }) rfl (fun K hK => ?_) AllReadyH.nil
        go_simp
        refine Calls.mono (HL2.out wp HINu8.out HTbu8.out) ?_
        rintro e wq ⟨rfl, bx⟩
        have HXu9 := Lib.hid (HXu8.out.below bx HXu8.out.lt)
        have HBu9 := Lib.hid (HBu8.out.trans (bx.mono HBu8.out.size))
        have HTbu9 := Lib.hid (HTbu8.out.below bx)
        have HINu9 := Lib.hid (HINu8.out.below bx)
        clear bx
        go_wp2_with fail
        refine hK.out _ _ ⟨HXu9.out.cell' rfl, HXu9.out.cell' rfl, HXu9.out.cell' rfl, HXu9.out.cell' rfl, HXu9.out.cell' rfl, HXu9.out.cell' rfl, HXu9.out.cell' rfl⟩ (fun hS2 => ?_)
        clear hK K
        try simp only [Act.put, List.setIfInBounds_toArray, List.set_cons_zero, List.set_cons_succ]
        refine wpAnyH_take (i := 4) (oi := { dst := some 28, op := .binOp .eql 9 (.tmp 25) (.tmp 27) 9, type := _, pos := _, after := _, guard := _ }) (v := .bool true) rfl (by kernel_rfl) (by kernel_rfl) (by kernel_rfl) (fun _ _ _ h => h) (Or.inl ⟨by rfl, ?_⟩) hS2 ?_
        · intro w' hSw
          go_simp
        try simp only [Act.put, List.setIfInBounds_toArray, List.set_cons_zero, List.set_cons_succ]
        refine wpAnyH_take (i := 5) (oi := { dst := some 29, op := .move (.tmp 28), type := _, pos := _, after := _, guard := _ }) (v := .bool true) rfl (by kernel_rfl) (by kernel_rfl) (by kernel_rfl) (fun _ _ _ h => h) (Or.inl ⟨by rfl, ?_⟩) hS2 ?_
        · intro w' hSw
          go_simp
        try simp only [Act.put, List.setIfInBounds_toArray, List.set_cons_zero, List.set_cons_succ]
        refine wpAnyH_take (i := 6) (oi := { dst := some 30, op := .move (.tmp 1), type := _, pos := _, after := _, guard := _ }) (v := .int .i64 kind) rfl (by kernel_rfl) (by kernel_rfl) (by kernel_rfl) (fun _ _ _ h => h) (Or.inl ⟨by rfl, ?_⟩) hS2 ?_
        · intro w' hSw
          go_simp
        try simp only [Act.put, List.setIfInBounds_toArray, List.set_cons_zero, List.set_cons_succ]
        refine wpAnyH_take (i := 8) (oi := { dst := some 32, op := .move (.tmp 5), type := _, pos := _, after := _, guard := _ }) (v := .string (⟨#[]⟩)) rfl (by kernel_rfl) (by kernel_rfl) (by kernel_rfl) (fun _ _ _ h => h) (Or.inl ⟨by rfl, ?_⟩) hS2 ?_
        · intro w' hSw
          go_simp
        try simp only [Act.put, List.setIfInBounds_toArray, List.set_cons_zero, List.set_cons_succ]
        refine wpAnyH_ready (rs := [7]) (by kernel_rfl) (by simp) ?_
        refine AllReadyH.cons (o := { dst := some 31, op := .call { callee := .value (.func 12), args := #[.tmp 30], argTypes := _ }, type := _, pos := _, after := _, guard := _ }) rfl (fun K hK => ?_) AllReadyH.nil
        go_simp
        refine Calls.mono (HNM.out wq HTbu9.out) ?_
        rintro e wr ⟨rfl, bx⟩
        have HXua := Lib.hid (HXu9.out.below bx HXu9.out.lt)
        have HBua := Lib.hid (HBu9.out.trans (bx.mono HBu9.out.size))
        have HTbua := Lib.hid (HTbu9.out.below bx)
        have HINua := Lib.hid (HINu9.out.below bx)
        clear bx
        go_wp2_with fail
        refine hK.out _ _ ⟨HXua.out.cell' rfl, HXua.out.cell' rfl, HXua.out.cell' rfl, HXua.out.cell' rfl, HXua.out.cell' rfl, HXua.out.cell' rfl, HXua.out.cell' rfl⟩ (fun hS3 => ?_)
        clear hK K
        try simp only [Act.put, List.setIfInBounds_toArray, List.set_cons_zero, List.set_cons_succ]
        refine wpAnyH_take (i := 9) (oi := { dst := some 33, op := .binOp .eql 9 (.tmp 31) (.tmp 32) 9, type := _, pos := _, after := _, guard := _ }) (v := .bool true) rfl (by kernel_rfl) (by kernel_rfl) (by kernel_rfl) (fun _ _ _ h => h) (Or.inl ⟨by rfl, ?_⟩) hS3 ?_
        · intro w' hSw
          go_simp
        try simp only [Act.put, List.setIfInBounds_toArray, List.set_cons_zero, List.set_cons_succ]
        refine wpAnyH_take (i := 10) (oi := { dst := some 34, op := .pick (.tmp 29) (.tmp 33) (.const (.bool false)), type := _, pos := _, after := _, guard := _ }) (v := .bool true) rfl (by kernel_rfl) (by kernel_rfl) (by kernel_rfl) (fun _ _ _ h => h) (Or.inl ⟨by rfl, ?_⟩) hS3 ?_
        · intro w' hSw
          go_simp
        try simp only [Act.put, List.setIfInBounds_toArray, List.set_cons_zero, List.set_cons_succ]
        refine wpAnyH_take (i := 11) (oi := { dst := some 4, op := .assign (.tmp 34), type := _, pos := _, after := _, guard := _ }) (v := .bool true) rfl (by kernel_rfl) (by kernel_rfl) (by kernel_rfl) (fun _ _ _ h => h) (Or.inl ⟨by rfl, ?_⟩) hS3 ?_
        · intro w' hSw
          go_simp
        try simp only [Act.put, List.setIfInBounds_toArray, List.set_cons_zero, List.set_cons_succ]
        refine wpAnyH_done (by kernel_rfl) ?_ _
        go_wp2_with fail
        go_ret
        exact ⟨rfl, HBua.out⟩
    · have f0 : decide (0 ≤ kind) = false := decide_eq_false k0
      have hkb : kindB kind = ⟨#[]⟩ := by unfold kindB; rw [if_neg (by omega)]
      rw [hkb] at HNM
      have x0 : w3.cell? ⟨w.heap.size, 0, none⟩ = some (.int .i64 kd) := HX3.out.cell' rfl
      have x1 : w3.cell? ⟨w.heap.size, 1, none⟩ = some (.string user) := HX3.out.cell' rfl
      have x2 : w3.cell? ⟨w.heap.size, 2, none⟩ = some (.int .i64 id) := HX3.out.cell' rfl
      have x3 : w3.cell? ⟨w.heap.size, 3, none⟩ = some (.int .i64 st) := HX3.out.cell' rfl
      have x4 : w3.cell? ⟨w.heap.size, 4, none⟩ = some (.int .i64 pr) := HX3.out.cell' rfl
      have x5 : w3.cell? ⟨w.heap.size, 5, none⟩ = some (.int .u64 ttl) := HX3.out.cell' rfl
      have x6 : w3.cell? ⟨w.heap.size, 6, none⟩ = some (.slice A us.length c) := HX3.out.cell' rfl
      have lx := HX3.out.lt
      go_wp2_with fail
      refine wp_region_held_drew (S := fun w' => w'.cell? ⟨w.heap.size, 0, none⟩ = some (.int .i64 kd) ∧ w'.cell? ⟨w.heap.size, 1, none⟩ = some (.string user) ∧ w'.cell? ⟨w.heap.size, 2, none⟩ = some (.int .i64 id) ∧ w'.cell? ⟨w.heap.size, 3, none⟩ = some (.int .i64 st) ∧ w'.cell? ⟨w.heap.size, 4, none⟩ = some (.int .i64 pr) ∧ w'.cell? ⟨w.heap.size, 5, none⟩ = some (.int .u64 ttl) ∧ w'.cell? ⟨w.heap.size, 6, none⟩ = some (.slice A us.length c)) (by kernel_rfl) ⟨x0, x1, x2, x3, x4, x5, x6⟩ (fun hS0 => ?_)
      refine wpAnyH_take (i := 0) (oi := { dst := some 24, op := .load 25 (.tmp 2), type := _, pos := _, after := _, guard := _ }) (v := .agg #[.int .i64 kd, .string user, .int .i64 id, .int .i64 st, .int .i64 pr, .int .u64 ttl, .slice A us.length c]) rfl (by kernel_rfl) (by kernel_rfl) (by kernel_rfl) (fun _ _ _ h => h) (Or.inl ⟨by rfl, ?_⟩) hS0 ?_
      · intro w' hSw
        obtain ⟨s0, s1, s2, s3, s4, s5, s6⟩ := hSw
        go_simp
      try simp only [Act.put, List.setIfInBounds_toArray, List.set_cons_zero, List.set_cons_succ]
      refine wpAnyH_take (i := 2) (oi := { dst := some 26, op := .load 25 (.tmp 2), type := _, pos := _, after := _, guard := _ }) (v := .agg #[.int .i64 kd, .string user, .int .i64 id, .int .i64 st, .int .i64 pr, .int .u64 ttl, .slice A us.length c]) rfl (by kernel_rfl) (by kernel_rfl) (by kernel_rfl) (fun _ _ _ h => h) (Or.inl ⟨by rfl, ?_⟩) hS0 ?_
      · intro w' hSw
        obtain ⟨s0, s1, s2, s3, s4, s5, s6⟩ := hSw
        go_simp
      try simp only [Act.put, List.setIfInBounds_toArray, List.set_cons_zero, List.set_cons_succ]
      have bd := Law.below_drewN (Below.refl w3.heap.size w3) 1
      have HXv7 : Hid (Is w3.drew w.heap.size 25 #[.int .i64 kd, .string user, .int .i64 id, .int .i64 st, .int .i64 pr, .int .u64 ttl, .slice A us.length c]) := HX3.out.drewN 1
      have HBv7 : Hid (Below w.heap.size w w3.drew) := Lib.hid (Law.below_drewN HB3.out 1)
      have HTbv7 : Hid (Tabs w3.drew) := Lib.hid (HTb3.out.below bd)
      have HINv7 : Hid (OpW.In ⟨kd, user, id, st, pr, ttl, A, c, us⟩ w3.drew) := Lib.hid (HIN3.out.below bd)
      clear bd
      refine wpAnyH_ready (rs := [1]) (by kernel_rfl) (by simp) ?_
      refine AllReadyH.cons (o := { dst := some 25, op := .call { callee := .value (.func 10), args := #[.tmp 24], argTypes := _ }, type := _, pos := _, after := _, guard := _ }) rfl (fun K hK => ?_) AllReadyH.nil
      go_simp
      refine Calls.mono (HL1.out w3.drew HINv7.out HTbv7.out) ?_
      rintro e wp ⟨rfl, bx⟩
      have HXv8 := Lib.hid (HXv7.out.below bx HXv7.out.lt)
      have HBv8 := Lib.hid (HBv7.out.trans (bx.mono HBv7.out.size))
      have HTbv8 := Lib.hid (HTbv7.out.below bx)
      have HINv8 := Lib.hid (HINv7.out.below bx)
      clear bx
      go_wp2_with fail
      refine hK.out _ _ ⟨HXv8.out.cell' rfl, HXv8.out.cell' rfl, HXv8.out.cell' rfl, HXv8.out.cell' rfl, HXv8.out.cell' rfl, HXv8.out.cell' rfl, HXv8.out.cell' rfl⟩ (fun hS1 => ?_)
      clear hK K
      try simp only [Act.put, List.setIfInBounds_toArray, List.set_cons_zero, List.set_cons_succ]
      refine wpAnyH_ready (rs := [3]) (by kernel_rfl) (by simp) ?_
      refine AllReadyH.cons (o := { dst := some 27, op := .call { callee := .value (.func 11), args := #[.tmp 26], argTypes := _ }, type := _, pos := _, after := _, guard := _ }) rfl (fun K hK => ?_) AllReadyH.nil
      go_simp
      refine Calls.mono (HL2.out wp HINv8.out HTbv8.out) ?_
      rintro e wq ⟨rfl, bx⟩
      have HXv9 := Lib.hid (HXv8.out.below bx HXv8.out.lt)
      have HBv9 := Lib.hid (HBv8.out.trans (bx.mono HBv8.out.size))
      have HTbv9 := Lib.hid (HTbv8.out.below bx)
      have HINv9 := Lib.hid (HINv8.out.below bx)
      clear bx
      go_wp2_with fail
      refine hK.out _ _ ⟨HXv9.out.cell' rfl, HXv9.out.cell' rfl, HXv9.out.cell' rfl, HXv9.out.cell' rfl, HXv9.out.cell' rfl, HXv9.out.cell' rfl, HXv9.out.cell' rfl⟩ (fun hS2 => ?_)
      clear hK K
      try simp only [Act.put, List.setIfInBounds_toArray, List.set_cons_zero, List.set_cons_succ]
      refine wpAnyH_take (i := 4) (oi := { dst := some 28, op := .binOp .eql 9 (.tmp 25) (.tmp 27) 9, type := _, pos := _, after := _, guard := _ }) (v := .bool true) rfl (by kernel_rfl) (by kernel_rfl) (by kernel_rfl) (fun _ _ _ h => h) (Or.inl ⟨by rfl, ?_⟩) hS2 ?_
      · intro w' hSw
        go_simp
      try simp only [Act.put, List.setIfInBounds_toArray, List.set_cons_zero, List.set_cons_succ]
      refine wpAnyH_take (i := 5) (oi := { dst := some 29, op := .move (.tmp 28), type := _, pos := _, after := _, guard := _ }) (v := .bool true) rfl (by kernel_rfl) (by kernel_rfl) (by kernel_rfl) (fun _ _ _ h => h) (Or.inl ⟨by rfl, ?_⟩) hS2 ?_
      · intro w' hSw
        go_simp
      try simp only [Act.put, List.setIfInBounds_toArray, List.set_cons_zero, List.set_cons_succ]
      refine wpAnyH_take (i := 6) (oi := { dst := some 30, op := .move (.tmp 1), type := _, pos := _, after := _, guard := _ }) (v := .int .i64 kind) rfl (by kernel_rfl) (by kernel_rfl) (by kernel_rfl) (fun _ _ _ h => h) (Or.inl ⟨by rfl, ?_⟩) hS2 ?_
      · intro w' hSw
        go_simp
      try simp only [Act.put, List.setIfInBounds_toArray, List.set_cons_zero, List.set_cons_succ]
      refine wpAnyH_take (i := 8) (oi := { dst := some 32, op := .move (.tmp 5), type := _, pos := _, after := _, guard := _ }) (v := .string (⟨#[]⟩)) rfl (by kernel_rfl) (by kernel_rfl) (by kernel_rfl) (fun _ _ _ h => h) (Or.inl ⟨by rfl, ?_⟩) hS2 ?_
      · intro w' hSw
        go_simp
      try simp only [Act.put, List.setIfInBounds_toArray, List.set_cons_zero, List.set_cons_succ]
      refine wpAnyH_ready (rs := [7]) (by kernel_rfl) (by simp) ?_
      refine AllReadyH.cons (o := { dst := some 31, op := .call { callee := .value (.func 12), args := #[.tmp 30], argTypes := _ }, type := _, pos := _, after := _, guard := _ }) rfl (fun K hK => ?_) AllReadyH.nil
      go_simp
      refine Calls.mono (HNM.out wq HTbv9.out) ?_
      rintro e wr ⟨rfl, bx⟩
      have HXva := Lib.hid (HXv9.out.below bx HXv9.out.lt)
      have HBva := Lib.hid (HBv9.out.trans (bx.mono HBv9.out.size))
      have HTbva := Lib.hid (HTbv9.out.below bx)
      have HINva := Lib.hid (HINv9.out.below bx)
      clear bx
      go_wp2_with fail
      refine hK.out _ _ ⟨HXva.out.cell' rfl, HXva.out.cell' rfl, HXva.out.cell' rfl, HXva.out.cell' rfl, HXva.out.cell' rfl, HXva.out.cell' rfl, HXva.out.cell' rfl⟩ (fun hS3 => ?_)
      clear hK K
      try simp only [Act.put, List.setIfInBounds_toArray, List.set_cons_zero, List.set_cons_succ]
      refine wpAnyH_take (i := 9) (oi := { dst := some 33, op := .binOp .eql 9 (.tmp 31) (.tmp 32) 9, type := _, pos := _, after := _, guard := _ }) (v := .bool true) rfl (by kernel_rfl) (by kernel_rfl) (by kernel_rfl) (fun _ _ _ h => h) (Or.inl ⟨by rfl, ?_⟩) hS3 ?_
      · intro w' hSw
        go_simp
      try simp only [Act.put, List.setIfInBounds_toArray, List.set_cons_zero, List.set_cons_succ]
      refine wpAnyH_take (i := 10) (oi := { dst := some 34, op := .pick (.tmp 29) (.tmp 33) (.const (.bool false)), type := _, pos := _, after := _, guard := _ }) (v := .bool true) rfl (by kernel_rfl) (by kernel_rfl) (by kernel_rfl) (fun _ _ _ h => h) (Or.inl ⟨by rfl, ?_⟩) hS3 ?_
      · intro w' hSw
        go_simp
      try simp only [Act.put, List.setIfInBounds_toArray, List.set_cons_zero, List.set_cons_succ]
      refine wpAnyH_take (i := 11) (oi := { dst := some 4, op := .assign (.tmp 34), type := _, pos := _, after := _, guard := _ }) (v := .bool true) rfl (by kernel_rfl) (by kernel_rfl) (by kernel_rfl) (fun _ _ _ h => h) (Or.inl ⟨by rfl, ?_⟩) hS3 ?_
      · intro w' hSw
        go_simp
      try simp only [Act.put, List.setIfInBounds_toArray, List.set_cons_zero, List.set_cons_succ]
      refine wpAnyH_done (by kernel_rfl) ?_ _
      go_wp2_with fail
      go_ret
      exact ⟨rfl, HBva.out⟩
set_option maxRecDepth 100000 in
set_option maxHeartbeats 4000000 in
theorem lifted (os : Os) (started : os.Started) (H : Type) (enc : TypeId × Value → H) :
    ReturnsInHanded {} Tryd.checked os 3 .any (fun w args => (Rows.opLinesSpec.pre enc Tryd.prog Tryd.f3 [] false w args ∧ laidMetH Tryd.prog Rows.opLinesRow.laid w) ∧ sizedMet enc Tryd.prog Tryd.f3 (OpenSpec.ofChange Rows.opLinesSpec) false w args) (Rows.opLinesSpec.post enc Tryd.prog Tryd.f3 false true false false) := by
  refine returnsInHanded_of_change_and (C := Tryd.checked) (X := (fun w _ => laidMetH Tryd.prog Rows.opLinesRow.laid w)) (fun _ _ _ hh h => h.of_heap hh) own started (by kernel_rfl) Tryd.func3
    (ChangeSpec.witness_shaped (enc := enc) (C := Tryd.checked) (os := os) (X := (fun w _ => laidMetH Tryd.prog Rows.opLinesRow.laid w)) false (World.laidAll Tryd.prog os Rows.opLinesRow.laid) #[.agg #[.int .i64 0, .string ⟨#[]⟩, .int .i64 0, .int .i64 0, .int .i64 0, .int .u64 0, .slice none 0 0], .int .i64 0] 8 (World.laidAll_os _ _ _)
      (World.shaped_of_ZipB (by kernel_rfl) (by kernel_rfl)) (by kernel_rfl) (by kernel_rfl) (by kernel_rfl)
      (by rw [MakeChecks.laidMetH_plain _ _ _ (by kernel_rfl)]; exact laidMet_laidAll _ (by kernel_rfl) (by kernel_rfl))) ?_
  intro W base args ds gs before hval0 hW _ _ hL _
  have hval : ∀ (j : Nat) t v, Tryd.f3.params[j]? = some t → args[j]? = some v → Value.okWide Tryd.prog W .any base t v := hval0
  have hW' := hW
  obtain ⟨p, q, hA0, hV, rfl, hfz, hnd⟩ := hW
  have hA : DataW.TrodAll enc Tryd.prog W 0 (fun _ => true) true Tryd.f3.params.toList args.toList ds p := hA0
  rw [Tryd.params3] at hA hval
  obtain ⟨v0, vs0, d0, ds0, p0, q0, hargs, rfl, rfl, h0, r0⟩ := trodAll_cons hA
  obtain ⟨v1, vs1, d1, ds1, p1, q1, rfl, rfl, rfl, h1, r1⟩ := trodAll_cons r0
  obtain ⟨rfl, rfl, rfl⟩ := trodAll_nil r1
  obtain rfl : args = #[v0, v1] := by cases args; simp_all
  obtain ⟨q, rfl, hq⟩ := open_op (hval 0 25 v0 rfl rfl) h0
  obtain ⟨a1, rfl, rfl, rfl, w1⟩ := open_int Tryd.underlying3 (hval 1 3 v1 rfl rfl) h1
  rw [MakeChecks.laidMetH_plain _ _ _ (by kernel_rfl)] at hL
  have HTb := Opx.tabs_of hL
  refine (walk q a1 W hq HTb).mono fun e W' ⟨he, bel⟩ => ?_
  subst he
  exact ⟨_, rfl, Law.post_law laidOut (by kernel_rfl) (by kernel_rfl) Tryd.underlying4 rfl (fun ds h => by match ds, h with | [_, _], _ => rfl) hW' bel⟩
theorem holds : Rows.OpLinesSaid :=
  OpenClaim.holds_of_wide 3 Tryd.f3 rfl rfl rfl rfl rfl rfl rfl ⟨rfl, rfl, rfl, rfl, rfl⟩ rfl rfl rfl rfl rfl (by kernel_rfl) Tryd.func3 (by kernel_rfl)
    (of_decide_eq_true (by kernel_rfl)) (by unfold Func.isWrapper; first | (rw [if_pos (by decide +kernel)]; kernel_rfl) | (rw [if_neg (by decide +kernel)]; exact ⟨rfl, rfl⟩))
    (fun os started H enc _ => lifted os started H enc)
theorem proved : Rows.OpLinesCardSaid :=
  Claim7.holds_tied_plain_at .later [] [.data, .data, .data, .data, .data, .pinned, .pinned, .pinned, .pinned, .pinned, .pinned] true (true, "e0587f967aa7f4d95d833c96f1390b2fa1cf91158ae5b78b86fc9c5f381e3e5e") false holds (fun _ h => by cases h) (by kernel_rfl) (fun _ h => by cases h) opLines_row_tie rfl ⟨rfl, rfl⟩ (by kernel_rfl) rfl
    (fun f fn hf hfn => by
      obtain rfl : f = 3 := Option.some.inj ((show Tryd.prog.funcNamed Rows.opLinesRow.func = some 3 by kernel_rfl).symm.trans hf) |>.symm
      obtain rfl : fn = Tryd.f3 := (Option.some.inj (Tryd.func3.symm.trans hfn)).symm
      exact ⟨by kernel_rfl, fun j t ht => by
        rw [Tryd.params3] at ht
        have hm : t ∈ [25, 3] := by simpa using Array.mem_of_getElem? ht
        have hall : ([25, 3].all fun u => !Tryd.prog.wantsStandIn u) = true := by kernel_rfl
        exact (show Tryd.prog.wantsStandIn t = false by simpa using List.all_eq_true.1 hall t hm)⟩)
    (by kernel_rfl)
#print axioms proved
end opLines
end Go.Proofs.YtjllofcfcecfbaaDoor
