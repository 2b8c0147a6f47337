/-
  Which op is bad, and whose presences it asks, is the document's. For all ops, no condition.
-/
import Derived.Test.YtombdjkfbjpipaaGreatJ24
namespace Go.Proofs.YtombdjkfbjpipaaGreat
open Go.RowKit Go.ChangeShapes Go.WideShapes Go.ChangeAt
namespace modelBad
open Feed Go.Law Bk Go.Proofs.YtombdjkfbjpipaaGreat.Mod
set_option maxRecDepth 100000 in
theorem open_op {H : Type} {enc : TypeId × Value → H} {W : World} {base b0 : Nat} {sp : Nat → Bool} {hd : Bool} {v : Value} {d : DataW H} {p : List MemPlace}
    (hv : Value.okWide Tryz.prog W .any b0 37 v) (h : DataW.Trod enc Tryz.prog W base sp hd 37 v d p) : ∃ q : OpW, v = q.v.val ∧ q.Good W := by
  obtain ⟨q, e, hg⟩ := open_struct cellsW Tryz.underlying37 decOp hv h
  exact ⟨q, e, hg⟩
/-- whom an op asks -/
def asks (q : OpW) : List ByteArray := if q.kind = 4 then [q.user] else if q.kind = 5 then q.us else []
set_option maxRecDepth 100000 in
set_option maxHeartbeats 2000000 in
theorem walk (q : OpW) (w : World) (h : q.Good w) :
    Calls Tryz.prog 4 #[q.v.val] w fun e w' => e = .returned (.bool true) ∧ Below w.heap.size w w' := by
  obtain ⟨kind, user, id, st, pr, ttl, A, c, us⟩ := q
  have bb := (Below.refl w.heap.size w).alloc (Nat.le_refl _) (.cells #[.int .i64 kind, .string user, .int .i64 id, .int .i64 st, .int .i64 pr, .int .u64 ttl, .slice A us.length c] 37)
  have HX := Lib.hid (Is.new w 37 #[.int .i64 kind, .string user, .int .i64 id, .int .i64 st, .int .i64 pr, .int .u64 ttl, .slice A us.length c] rfl)
  have HIN := Lib.hid (h.in_.below bb)
  have HB := Lib.hid bb
  clear h bb
  show Calls _ _ #[.agg #[.int .i64 kind, .string user, .int .i64 id, .int .i64 st, .int .i64 pr, .int .u64 ttl, .slice A us.length c]] _ _
  go_enter Tryz.func4, Tryz.ntmps4
  go_wp2_with fail
  generalize (w.alloc (.cells #[.int .i64 kind, .string user, .int .i64 id, .int .i64 st, .int .i64 pr, .int .u64 ttl, .slice A us.length c] 37)) = w1 at *
  refine (awake w1).mono ?_
  rintro e w2 ⟨rfl, b2⟩
  have HX2 := Lib.hid (HX.out.below b2 HX.out.lt)
  have HI2 := Lib.hid (HIN.out.below b2)
  have HB2 := Lib.hid (HB.out.trans (b2.mono HB.out.size))
  have x0 : w2.cell? ⟨w.heap.size, 0, none⟩ = some (.int .i64 kind) := HX2.out.cell' rfl
  have x1 : w2.cell? ⟨w.heap.size, 1, none⟩ = some (.string user) := HX2.out.cell' rfl
  have x2 : w2.cell? ⟨w.heap.size, 2, none⟩ = some (.int .i64 id) := HX2.out.cell' rfl
  have x3 : w2.cell? ⟨w.heap.size, 3, none⟩ = some (.int .i64 st) := HX2.out.cell' rfl
  have x4 : w2.cell? ⟨w.heap.size, 4, none⟩ = some (.int .i64 pr) := HX2.out.cell' rfl
  have x5 : w2.cell? ⟨w.heap.size, 5, none⟩ = some (.int .u64 ttl) := HX2.out.cell' rfl
  have x6 : w2.cell? ⟨w.heap.size, 6, none⟩ = some (.slice A us.length c) := HX2.out.cell' rfl
  have lx := HX2.out.lt
  clear b2 HX HIN HB
  go_wp2_with fail
  cases hsh : shortB ⟨kind, user, id, st, pr, ttl, A, c, us⟩ with
  | false =>
    refine (short ⟨kind, user, id, st, pr, ttl, A, c, us⟩ HI2.out hsh).mono ?_
    rintro e w3 ⟨rfl, b3⟩
    have HB3 := Lib.hid (HB2.out.trans (b3.mono HB2.out.size))
    clear b3
    go_wp2_with fail
    refine (awake w3).mono ?_
    rintro e w4 ⟨rfl, b4⟩
    have HB4 := Lib.hid (HB3.out.trans (b4.mono HB3.out.size))
    clear b4
    go_wp2_with fail
    go_ret
    exact ⟨rfl, HB4.out⟩
  | true =>
    have hl20 : us.length ≤ 20 := by simp [shortB] at hsh; omega
    refine (short ⟨kind, user, id, st, pr, ttl, A, c, us⟩ HI2.out hsh).mono ?_
    rintro e w3 ⟨rfl, b3⟩
    have HX3 := Lib.hid (HX2.out.below b3 HX2.out.lt)
    have HI3 := Lib.hid (HI2.out.below b3)
    have HB3 := Lib.hid (HB2.out.trans (b3.mono HB2.out.size))
    clear x0 x1 x2 x3 x4 x5 x6 lx b3 HX2 HI2 HB2
    have x0 : w3.cell? ⟨w.heap.size, 0, none⟩ = some (.int .i64 kind) := HX3.out.cell' rfl
    have x1 : w3.cell? ⟨w.heap.size, 1, none⟩ = some (.string user) := HX3.out.cell' rfl
    have x2 : w3.cell? ⟨w.heap.size, 2, none⟩ = some (.int .i64 id) := HX3.out.cell' rfl
    have x3 : w3.cell? ⟨w.heap.size, 3, none⟩ = some (.int .i64 st) := HX3.out.cell' rfl
    have x4 : w3.cell? ⟨w.heap.size, 4, none⟩ = some (.int .i64 pr) := HX3.out.cell' rfl
    have x5 : w3.cell? ⟨w.heap.size, 5, none⟩ = some (.int .u64 ttl) := HX3.out.cell' rfl
    have x6 : w3.cell? ⟨w.heap.size, 6, none⟩ = some (.slice A us.length c) := HX3.out.cell' rfl
    have lx := HX3.out.lt
    by_cases h4 : kind = 4
    · subst h4
      go_wp2_with fail
      have bn := (Below.refl w3.heap.size w3).alloc (Nat.le_refl _) (.cells #[.string user] 9)
      have HX0 := Lib.hid (HX3.out.below bn HX3.out.lt)
      have HI0 := Lib.hid (HI3.out.below bn)
      have HB0 := Lib.hid (HB3.out.trans (bn.mono HB3.out.size))
      have HN : Hid (Is (w3.alloc (.cells #[.string user] 9)) w3.heap.size 9 #[.string user]) := Is.new w3 _ _ rfl
      generalize hW0 : w3.alloc (.cells #[.string user] 9) = W0 at *
      clear hW0 bn
      refine (users4 user id st pr ttl (.slice A us.length c) W0).mono ?_
      rintro e w4 ⟨A3, c3, rfl, hs3, b4⟩
      have HX4 := Lib.hid (HX0.out.below b4 HX0.out.lt)
      have HI4 := Lib.hid (HI0.out.below b4)
      have HB4 := Lib.hid (HB0.out.trans (b4.mono HB0.out.size))
      have HG := Lib.hid (hs3.from_ (Nat.zero_le _))
      have HW : Hid (Seq w4 0 w4.heap.size (some ⟨w3.heap.size, 0, none⟩) ([user].map .string)) := fun _ => ⟨w3.heap.size, 0, rfl, Nat.zero_le _, Nat.lt_of_lt_of_le HN.out.lt b4.size, fun i u hu => by
          have hi : i = 0 := by have := (List.getElem?_eq_some_iff.1 hu).1; simp at this; omega
          subst hi
          obtain rfl : Value.string user = u := by simpa using hu
          exact (HN.out.below b4 HN.out.lt).cell' rfl⟩
      clear x0 x1 x2 x3 x4 x5 x6 lx hs3 b4
      have x0 : w4.cell? ⟨w.heap.size, 0, none⟩ = some (.int .i64 4) := HX4.out.cell' rfl
      have x1 : w4.cell? ⟨w.heap.size, 1, none⟩ = some (.string user) := HX4.out.cell' rfl
      have x2 : w4.cell? ⟨w.heap.size, 2, none⟩ = some (.int .i64 id) := HX4.out.cell' rfl
      have x3 : w4.cell? ⟨w.heap.size, 3, none⟩ = some (.int .i64 st) := HX4.out.cell' rfl
      have x4 : w4.cell? ⟨w.heap.size, 4, none⟩ = some (.int .i64 pr) := HX4.out.cell' rfl
      have x5 : w4.cell? ⟨w.heap.size, 5, none⟩ = some (.int .u64 ttl) := HX4.out.cell' rfl
      have x6 : w4.cell? ⟨w.heap.size, 6, none⟩ = some (.slice A us.length c) := HX4.out.cell' rfl
      have lx := HX4.out.lt
      obtain ⟨gb, hgb⟩ : ∃ gb, (!goodB ⟨4, user, id, st, pr, ttl, A, c, us⟩) = gb := ⟨_, rfl⟩
      have HGB := Lib.hid hgb
      have eg : (gb != gb) = false := by simp
      clear hgb
      have el : ((1 : Int) != (1 : Int)) = false := by simp
      have bd : Below w4.heap.size w4 w4.drew := Law.below_drewN (Below.refl _ w4) 1
      have HKS : Hid (∀ w', Below w4.heap.size w4 w' → (w'.cell? ⟨w.heap.size, 0, none⟩ = some (.int .i64 4) ∧ w'.cell? ⟨w.heap.size, 1, none⟩ = some (.string user) ∧ w'.cell? ⟨w.heap.size, 2, none⟩ = some (.int .i64 id) ∧ w'.cell? ⟨w.heap.size, 3, none⟩ = some (.int .i64 st) ∧ w'.cell? ⟨w.heap.size, 4, none⟩ = some (.int .i64 pr) ∧ w'.cell? ⟨w.heap.size, 5, none⟩ = some (.int .u64 ttl) ∧ w'.cell? ⟨w.heap.size, 6, none⟩ = some (.slice A us.length c) ∧ w.heap.size < w'.heap.size)) := fun w' K => ⟨(K.cell (p := ⟨w.heap.size, 0, none⟩) HX4.out.lt).trans (HX4.out.cell' rfl), (K.cell (p := ⟨w.heap.size, 1, none⟩) HX4.out.lt).trans (HX4.out.cell' rfl), (K.cell (p := ⟨w.heap.size, 2, none⟩) HX4.out.lt).trans (HX4.out.cell' rfl), (K.cell (p := ⟨w.heap.size, 3, none⟩) HX4.out.lt).trans (HX4.out.cell' rfl), (K.cell (p := ⟨w.heap.size, 4, none⟩) HX4.out.lt).trans (HX4.out.cell' rfl), (K.cell (p := ⟨w.heap.size, 5, none⟩) HX4.out.lt).trans (HX4.out.cell' rfl), (K.cell (p := ⟨w.heap.size, 6, none⟩) HX4.out.lt).trans (HX4.out.cell' rfl), Nat.lt_of_lt_of_le HX4.out.lt K.size⟩
      have HI9 : Hid (OpW.In ⟨4, user, id, st, pr, ttl, A, c, us⟩ w4.drew) := HI4.out.below bd
      go_upto_region 9 with (fail)
      refine wp_region_held_drew (S := fun w' => w'.cell? ⟨w.heap.size, 0, none⟩ = some (.int .i64 4) ∧ w'.cell? ⟨w.heap.size, 1, none⟩ = some (.string user) ∧ w'.cell? ⟨w.heap.size, 2, none⟩ = some (.int .i64 id) ∧ w'.cell? ⟨w.heap.size, 3, none⟩ = some (.int .i64 st) ∧ w'.cell? ⟨w.heap.size, 4, none⟩ = some (.int .i64 pr) ∧ w'.cell? ⟨w.heap.size, 5, none⟩ = some (.int .u64 ttl) ∧ w'.cell? ⟨w.heap.size, 6, none⟩ = some (.slice A us.length c) ∧ w.heap.size < w'.heap.size) (by kernel_rfl) (HKS.out _ bd) (fun hS0 => ?_)
      refine wpAnyH_take (i := 0) (oi := { dst := some 27, op := .load 37 (.tmp 1), type := _, pos := _, after := _, guard := _ }) (v := .agg #[.int .i64 4, .string user, .int .i64 id, .int .i64 st, .int .i64 pr, .int .u64 ttl, .slice A us.length c]) rfl (by kernel_rfl) (by kernel_rfl) (by kernel_rfl) (fun _ _ _ h => h) (Or.inl ⟨by rfl, ?_⟩) hS0 ?_
      · intro w' hSw
        obtain ⟨s0, s1, s2, s3, s4, s5, s6, s7⟩ := hSw
        go_simp
      try simp only [Act.put, List.setIfInBounds_toArray, List.set_cons_zero, List.set_cons_succ]
      refine wpAnyH_take (i := 2) (oi := { dst := some 29, op := .load 37 (.tmp 1), type := _, pos := _, after := _, guard := _ }) (v := .agg #[.int .i64 4, .string user, .int .i64 id, .int .i64 st, .int .i64 pr, .int .u64 ttl, .slice A us.length c]) rfl (by kernel_rfl) (by kernel_rfl) (by kernel_rfl) (fun _ _ _ h => h) (Or.inl ⟨by rfl, ?_⟩) hS0 ?_
      · intro w' hSw
        obtain ⟨s0, s1, s2, s3, s4, s5, s6, s7⟩ := hSw
        go_simp
      try simp only [Act.put, List.setIfInBounds_toArray, List.set_cons_zero, List.set_cons_succ]
      clear HX4 HI4 x0 x1 x2 x3 x4 x5 x6 lx
      refine wpAnyH_ready (rs := [1]) (by kernel_rfl) (by simp) ?_
      refine AllReadyH.cons (o := { dst := some 28, op := .call { callee := .value (.func 29), args := #[.tmp 27], argTypes := _ }, type := _, pos := _, after := _, guard := _ }) rfl (fun K hK => ?_) AllReadyH.nil
      go_simp
      refine Calls.mono (bad ⟨4, user, id, st, pr, ttl, A, c, us⟩ HI9.out HGB.out) ?_
      rintro e w5 ⟨rfl, b5⟩
      have b45 : Below w4.heap.size w4 w5 := bd.trans (b5.mono (Nat.le_refl _))
      have HI5 := Lib.hid (HI9.out.below b5)
      go_wp2_with fail
      refine hK.out _ _ (HKS.out _ b45) (fun hS1 => ?_)
      clear hK K
      try simp only [Act.put, List.setIfInBounds_toArray, List.set_cons_zero, List.set_cons_succ]
      refine wpAnyH_ready (rs := [3]) (by kernel_rfl) (by simp) ?_
      refine AllReadyH.cons (o := { dst := some 30, op := .call { callee := .value (.func 30), args := #[.tmp 29], argTypes := _ }, type := _, pos := _, after := _, guard := _ }) rfl (fun K hK => ?_) AllReadyH.nil
      go_simp
      refine Calls.mono (rbad ⟨4, user, id, st, pr, ttl, A, c, us⟩ HI5.out (by show us.length ≤ 1000; omega) HGB.out) ?_
      rintro e w6 ⟨rfl, b6⟩
      have b46 : Below w4.heap.size w4 w6 := b45.trans (b6.mono b45.size)
      go_wp2_with fail
      refine hK.out _ _ (HKS.out _ b46) (fun hS2 => ?_)
      clear hK K
      try simp only [Act.put, List.setIfInBounds_toArray, List.set_cons_zero, List.set_cons_succ]
      refine wpAnyH_take (i := 4) (oi := { dst := some 31, op := .binOp .neq 4 (.tmp 28) (.tmp 30) 4, type := _, pos := _, after := _, guard := _ }) (v := .bool false) rfl (by kernel_rfl) (by kernel_rfl) (by kernel_rfl) (fun _ _ _ h => h) (Or.inl ⟨by rfl, ?_⟩) hS2 ?_
      · intro w' hSw
        go_simp
      try simp only [Act.put, List.setIfInBounds_toArray, List.set_cons_zero, List.set_cons_succ]
      refine wpAnyH_take (i := 5) (oi := { dst := some 32, op := .move (.tmp 31), type := _, pos := _, after := _, guard := _ }) (v := .bool false) rfl (by kernel_rfl) (by kernel_rfl) (by kernel_rfl) (fun _ _ _ h => h) (Or.inl ⟨by rfl, ?_⟩) hS2 ?_
      · intro w' hSw
        go_simp
      try simp only [Act.put, List.setIfInBounds_toArray, List.set_cons_zero, List.set_cons_succ]
      refine wpAnyH_take (i := 6) (oi := { dst := some 33, op := .move (.tmp 4), type := _, pos := _, after := _, guard := _ }) (v := .slice A3 1 c3) rfl (by kernel_rfl) (by kernel_rfl) (by kernel_rfl) (fun _ _ _ h => h) (Or.inl ⟨by rfl, ?_⟩) hS2 ?_
      · intro w' hSw
        go_simp
      try simp only [Act.put, List.setIfInBounds_toArray, List.set_cons_zero, List.set_cons_succ]
      refine wpAnyH_take (i := 7) (oi := { dst := some 34, op := .call { callee := .builtin .len, args := #[.tmp 33], argTypes := #[35] }, type := _, pos := _, after := _, guard := _ }) (v := .int .i64 (1 : Int)) rfl (by kernel_rfl) (by kernel_rfl) (by kernel_rfl) (fun _ _ _ h => h) (Or.inl ⟨by rfl, ?_⟩) hS2 ?_
      · intro w' hSw
        go_simp
      try simp only [Act.put, List.setIfInBounds_toArray, List.set_cons_zero, List.set_cons_succ]
      refine wpAnyH_take (i := 8) (oi := { dst := some 35, op := .move (.tmp 3), type := _, pos := _, after := _, guard := _ }) (v := .slice (some ⟨w3.heap.size, 0, none⟩) 1 1) rfl (by kernel_rfl) (by kernel_rfl) (by kernel_rfl) (fun _ _ _ h => h) (Or.inl ⟨by rfl, ?_⟩) hS2 ?_
      · intro w' hSw
        go_simp
      try simp only [Act.put, List.setIfInBounds_toArray, List.set_cons_zero, List.set_cons_succ]
      refine wpAnyH_take (i := 9) (oi := { dst := some 36, op := .call { callee := .builtin .len, args := #[.tmp 35], argTypes := #[35] }, type := _, pos := _, after := _, guard := _ }) (v := .int .i64 (1 : Int)) rfl (by kernel_rfl) (by kernel_rfl) (by kernel_rfl) (fun _ _ _ h => h) (Or.inl ⟨by rfl, ?_⟩) hS2 ?_
      · intro w' hSw
        go_simp
      try simp only [Act.put, List.setIfInBounds_toArray, List.set_cons_zero, List.set_cons_succ]
      refine wpAnyH_take (i := 10) (oi := { dst := some 37, op := .binOp .neq 3 (.tmp 34) (.tmp 36) 3, type := _, pos := _, after := _, guard := _ }) (v := .bool false) rfl (by kernel_rfl) (by kernel_rfl) (by kernel_rfl) (fun _ _ _ h => h) (Or.inl ⟨by rfl, ?_⟩) hS2 ?_
      · intro w' hSw
        go_simp
      try simp only [Act.put, List.setIfInBounds_toArray, List.set_cons_zero, List.set_cons_succ]
      refine wpAnyH_take (i := 11) (oi := { dst := some 38, op := .pick (.tmp 32) (.const (.bool true)) (.tmp 37), type := _, pos := _, after := _, guard := _ }) (v := .bool false) rfl (by kernel_rfl) (by kernel_rfl) (by kernel_rfl) (fun _ _ _ h => h) (Or.inl ⟨by rfl, ?_⟩) hS2 ?_
      · intro w' hSw
        go_simp
      try simp only [Act.put, List.setIfInBounds_toArray, List.set_cons_zero, List.set_cons_succ]
      refine wpAnyH_done (by kernel_rfl) ?_ _
      have HB6 := Lib.hid (HB4.out.trans (b46.mono HB4.out.size))
      have HG6 := Lib.hid ((HG.out.below b46).more b46.size)
      have HW6 := Lib.hid ((HW.out.below b46).more b46.size)
      clear b46 b6 b45 b5 hS0 hS1 hS2 HKS HI5 HI9 HG HW HB4 bd
      go_wp2_with fail
      go_loopw [5] (fun vi wr => ∃ j : Nat, j ≤ 1 ∧ vi = .int .i64 j ∧ Below w6.heap.size w6 wr) (fun vi _ => 1 - (intOf vi).toNat)
      case atStart => exact ⟨0, Nat.zero_le _, rfl, Below.refl _ _⟩
      case round =>
        obtain ⟨j, hj, rfl, hBr⟩ := hrel
        have HBr := Lib.hid hBr
        have szr := hBr.size
        clear hBr
        by_cases hlt : j < 1
        · skip
          obtain rfl : j = 0 := by omega
          have d1 : decide (((0 : Nat) : Int) < (1 : Int)) = true := decide_eq_true (by omega)
          obtain ⟨b1, o1, rfl, _, hb1, c0⟩ := (HG6.out.below HBr.out).str (i := 0) (by simp)
          obtain ⟨b2, o2, hA2, _, hb2, c1⟩ := (HW6.out.below HBr.out).str (i := 0) (by simp)
          obtain ⟨rfl, rfl⟩ : w3.heap.size = b2 ∧ 0 = o2 := by simpa using hA2
          have l1 := Nat.lt_of_lt_of_le hb1 szr
          have l2 := Nat.lt_of_lt_of_le hb2 szr
          generalize ([user])[0]'(by simp) = u at *
          have e1 : (u.toList != u.toList) = false := by simp
          simp only [Nat.add_zero] at c0 c1
          go_wp2_with fail
          go_quiet (fail)
          go_wp2_with fail
          go_roundw
          case rel => exact ⟨0 + 1, by omega, by go_num, Law.below_drewN HBr.out nq⟩
          case measure => simp [intOf]
        · have d1 : decide ((j : Int) < (1 : Int)) = false := decide_eq_false (by omega)
          have HBF := Lib.hid (HB6.out.trans (HBr.out.mono HB6.out.size))
          go_wp2_with fail
          go_ret
          exact ⟨rfl, HBF.out⟩
    · by_cases h5 : kind = 5
      · subst h5
        go_wp2_with fail
        have HX0 := HX3
        have HI0 := HI3
        have HB0 := HB3
        refine (users5 user id st pr ttl us A c w3 HI3.out.us (by omega)).mono ?_
        rintro e w4 ⟨A3, c3, rfl, hs3, b4⟩
        have HX4 := Lib.hid (HX0.out.below b4 HX0.out.lt)
        have HI4 := Lib.hid (HI0.out.below b4)
        have HB4 := Lib.hid (HB0.out.trans (b4.mono HB0.out.size))
        have HG := Lib.hid (hs3.from_ (Nat.zero_le _))
        have HW : Hid (Seq w4 0 w4.heap.size A (us.map .string)) := (HI3.out.us.below b4).more b4.size
        clear x0 x1 x2 x3 x4 x5 x6 lx hs3 b4
        have x0 : w4.cell? ⟨w.heap.size, 0, none⟩ = some (.int .i64 5) := HX4.out.cell' rfl
        have x1 : w4.cell? ⟨w.heap.size, 1, none⟩ = some (.string user) := HX4.out.cell' rfl
        have x2 : w4.cell? ⟨w.heap.size, 2, none⟩ = some (.int .i64 id) := HX4.out.cell' rfl
        have x3 : w4.cell? ⟨w.heap.size, 3, none⟩ = some (.int .i64 st) := HX4.out.cell' rfl
        have x4 : w4.cell? ⟨w.heap.size, 4, none⟩ = some (.int .i64 pr) := HX4.out.cell' rfl
        have x5 : w4.cell? ⟨w.heap.size, 5, none⟩ = some (.int .u64 ttl) := HX4.out.cell' rfl
        have x6 : w4.cell? ⟨w.heap.size, 6, none⟩ = some (.slice A us.length c) := HX4.out.cell' rfl
        have lx := HX4.out.lt
        obtain ⟨gb, hgb⟩ : ∃ gb, (!goodB ⟨5, user, id, st, pr, ttl, A, c, us⟩) = gb := ⟨_, rfl⟩
        have HGB := Lib.hid hgb
        have eg : (gb != gb) = false := by simp
        clear hgb
        have el : ((us.length : Int) != (us.length : Int)) = false := by simp
        have bd : Below w4.heap.size w4 w4.drew := Law.below_drewN (Below.refl _ w4) 1
        have HKS : Hid (∀ w', Below w4.heap.size w4 w' → (w'.cell? ⟨w.heap.size, 0, none⟩ = some (.int .i64 5) ∧ w'.cell? ⟨w.heap.size, 1, none⟩ = some (.string user) ∧ w'.cell? ⟨w.heap.size, 2, none⟩ = some (.int .i64 id) ∧ w'.cell? ⟨w.heap.size, 3, none⟩ = some (.int .i64 st) ∧ w'.cell? ⟨w.heap.size, 4, none⟩ = some (.int .i64 pr) ∧ w'.cell? ⟨w.heap.size, 5, none⟩ = some (.int .u64 ttl) ∧ w'.cell? ⟨w.heap.size, 6, none⟩ = some (.slice A us.length c) ∧ w.heap.size < w'.heap.size)) := fun w' K => ⟨(K.cell (p := ⟨w.heap.size, 0, none⟩) HX4.out.lt).trans (HX4.out.cell' rfl), (K.cell (p := ⟨w.heap.size, 1, none⟩) HX4.out.lt).trans (HX4.out.cell' rfl), (K.cell (p := ⟨w.heap.size, 2, none⟩) HX4.out.lt).trans (HX4.out.cell' rfl), (K.cell (p := ⟨w.heap.size, 3, none⟩) HX4.out.lt).trans (HX4.out.cell' rfl), (K.cell (p := ⟨w.heap.size, 4, none⟩) HX4.out.lt).trans (HX4.out.cell' rfl), (K.cell (p := ⟨w.heap.size, 5, none⟩) HX4.out.lt).trans (HX4.out.cell' rfl), (K.cell (p := ⟨w.heap.size, 6, none⟩) HX4.out.lt).trans (HX4.out.cell' rfl), Nat.lt_of_lt_of_le HX4.out.lt K.size⟩
        have HI9 : Hid (OpW.In ⟨5, user, id, st, pr, ttl, A, c, us⟩ w4.drew) := HI4.out.below bd
        go_upto_region 9 with (fail)
        refine wp_region_held_drew (S := fun w' => w'.cell? ⟨w.heap.size, 0, none⟩ = some (.int .i64 5) ∧ w'.cell? ⟨w.heap.size, 1, none⟩ = some (.string user) ∧ w'.cell? ⟨w.heap.size, 2, none⟩ = some (.int .i64 id) ∧ w'.cell? ⟨w.heap.size, 3, none⟩ = some (.int .i64 st) ∧ w'.cell? ⟨w.heap.size, 4, none⟩ = some (.int .i64 pr) ∧ w'.cell? ⟨w.heap.size, 5, none⟩ = some (.int .u64 ttl) ∧ w'.cell? ⟨w.heap.size, 6, none⟩ = some (.slice A us.length c) ∧ w.heap.size < w'.heap.size) (by kernel_rfl) (HKS.out _ bd) (fun hS0 => ?_)
        refine wpAnyH_take (i := 0) (oi := { dst := some 27, op := .load 37 (.tmp 1), type := _, pos := _, after := _, guard := _ }) (v := .agg #[.int .i64 5, .string user, .int .i64 id, .int .i64 st, .int .i64 pr, .int .u64 ttl, .slice A us.length c]) rfl (by kernel_rfl) (by kernel_rfl) (by kernel_rfl) (fun _ _ _ h => h) (Or.inl ⟨by rfl, ?_⟩) hS0 ?_
        · intro w' hSw
          obtain ⟨s0, s1, s2, s3, s4, s5, s6, s7⟩ := hSw
          go_simp
        try simp only [Act.put, List.setIfInBounds_toArray, List.set_cons_zero, List.set_cons_succ]
        refine wpAnyH_take (i := 2) (oi := { dst := some 29, op := .load 37 (.tmp 1), type := _, pos := _, after := _, guard := _ }) (v := .agg #[.int .i64 5, .string user, .int .i64 id, .int .i64 st, .int .i64 pr, .int .u64 ttl, .slice A us.length c]) rfl (by kernel_rfl) (by kernel_rfl) (by kernel_rfl) (fun _ _ _ h => h) (Or.inl ⟨by rfl, ?_⟩) hS0 ?_
        · intro w' hSw
          obtain ⟨s0, s1, s2, s3, s4, s5, s6, s7⟩ := hSw
          go_simp
        try simp only [Act.put, List.setIfInBounds_toArray, List.set_cons_zero, List.set_cons_succ]
        clear HX4 HI4 x0 x1 x2 x3 x4 x5 x6 lx
        refine wpAnyH_ready (rs := [1]) (by kernel_rfl) (by simp) ?_
        refine AllReadyH.cons (o := { dst := some 28, op := .call { callee := .value (.func 29), args := #[.tmp 27], argTypes := _ }, type := _, pos := _, after := _, guard := _ }) rfl (fun K hK => ?_) AllReadyH.nil
        go_simp
        refine Calls.mono (bad ⟨5, user, id, st, pr, ttl, A, c, us⟩ HI9.out HGB.out) ?_
        rintro e w5 ⟨rfl, b5⟩
        have b45 : Below w4.heap.size w4 w5 := bd.trans (b5.mono (Nat.le_refl _))
        have HI5 := Lib.hid (HI9.out.below b5)
        go_wp2_with fail
        refine hK.out _ _ (HKS.out _ b45) (fun hS1 => ?_)
        clear hK K
        try simp only [Act.put, List.setIfInBounds_toArray, List.set_cons_zero, List.set_cons_succ]
        refine wpAnyH_ready (rs := [3]) (by kernel_rfl) (by simp) ?_
        refine AllReadyH.cons (o := { dst := some 30, op := .call { callee := .value (.func 30), args := #[.tmp 29], argTypes := _ }, type := _, pos := _, after := _, guard := _ }) rfl (fun K hK => ?_) AllReadyH.nil
        go_simp
        refine Calls.mono (rbad ⟨5, user, id, st, pr, ttl, A, c, us⟩ HI5.out (by show us.length ≤ 1000; omega) HGB.out) ?_
        rintro e w6 ⟨rfl, b6⟩
        have b46 : Below w4.heap.size w4 w6 := b45.trans (b6.mono b45.size)
        go_wp2_with fail
        refine hK.out _ _ (HKS.out _ b46) (fun hS2 => ?_)
        clear hK K
        try simp only [Act.put, List.setIfInBounds_toArray, List.set_cons_zero, List.set_cons_succ]
        refine wpAnyH_take (i := 4) (oi := { dst := some 31, op := .binOp .neq 4 (.tmp 28) (.tmp 30) 4, type := _, pos := _, after := _, guard := _ }) (v := .bool false) rfl (by kernel_rfl) (by kernel_rfl) (by kernel_rfl) (fun _ _ _ h => h) (Or.inl ⟨by rfl, ?_⟩) hS2 ?_
        · intro w' hSw
          go_simp
        try simp only [Act.put, List.setIfInBounds_toArray, List.set_cons_zero, List.set_cons_succ]
        refine wpAnyH_take (i := 5) (oi := { dst := some 32, op := .move (.tmp 31), type := _, pos := _, after := _, guard := _ }) (v := .bool false) rfl (by kernel_rfl) (by kernel_rfl) (by kernel_rfl) (fun _ _ _ h => h) (Or.inl ⟨by rfl, ?_⟩) hS2 ?_
        · intro w' hSw
          go_simp
        try simp only [Act.put, List.setIfInBounds_toArray, List.set_cons_zero, List.set_cons_succ]
        refine wpAnyH_take (i := 6) (oi := { dst := some 33, op := .move (.tmp 4), type := _, pos := _, after := _, guard := _ }) (v := .slice A3 us.length c3) rfl (by kernel_rfl) (by kernel_rfl) (by kernel_rfl) (fun _ _ _ h => h) (Or.inl ⟨by rfl, ?_⟩) hS2 ?_
        · intro w' hSw
          go_simp
        try simp only [Act.put, List.setIfInBounds_toArray, List.set_cons_zero, List.set_cons_succ]
        refine wpAnyH_take (i := 7) (oi := { dst := some 34, op := .call { callee := .builtin .len, args := #[.tmp 33], argTypes := #[35] }, type := _, pos := _, after := _, guard := _ }) (v := .int .i64 (us.length : Int)) rfl (by kernel_rfl) (by kernel_rfl) (by kernel_rfl) (fun _ _ _ h => h) (Or.inl ⟨by rfl, ?_⟩) hS2 ?_
        · intro w' hSw
          go_simp
        try simp only [Act.put, List.setIfInBounds_toArray, List.set_cons_zero, List.set_cons_succ]
        refine wpAnyH_take (i := 8) (oi := { dst := some 35, op := .move (.tmp 3), type := _, pos := _, after := _, guard := _ }) (v := .slice A us.length c) rfl (by kernel_rfl) (by kernel_rfl) (by kernel_rfl) (fun _ _ _ h => h) (Or.inl ⟨by rfl, ?_⟩) hS2 ?_
        · intro w' hSw
          go_simp
        try simp only [Act.put, List.setIfInBounds_toArray, List.set_cons_zero, List.set_cons_succ]
        refine wpAnyH_take (i := 9) (oi := { dst := some 36, op := .call { callee := .builtin .len, args := #[.tmp 35], argTypes := #[35] }, type := _, pos := _, after := _, guard := _ }) (v := .int .i64 (us.length : Int)) rfl (by kernel_rfl) (by kernel_rfl) (by kernel_rfl) (fun _ _ _ h => h) (Or.inl ⟨by rfl, ?_⟩) hS2 ?_
        · intro w' hSw
          go_simp
        try simp only [Act.put, List.setIfInBounds_toArray, List.set_cons_zero, List.set_cons_succ]
        refine wpAnyH_take (i := 10) (oi := { dst := some 37, op := .binOp .neq 3 (.tmp 34) (.tmp 36) 3, type := _, pos := _, after := _, guard := _ }) (v := .bool false) rfl (by kernel_rfl) (by kernel_rfl) (by kernel_rfl) (fun _ _ _ h => h) (Or.inl ⟨by rfl, ?_⟩) hS2 ?_
        · intro w' hSw
          go_simp
        try simp only [Act.put, List.setIfInBounds_toArray, List.set_cons_zero, List.set_cons_succ]
        refine wpAnyH_take (i := 11) (oi := { dst := some 38, op := .pick (.tmp 32) (.const (.bool true)) (.tmp 37), type := _, pos := _, after := _, guard := _ }) (v := .bool false) rfl (by kernel_rfl) (by kernel_rfl) (by kernel_rfl) (fun _ _ _ h => h) (Or.inl ⟨by rfl, ?_⟩) hS2 ?_
        · intro w' hSw
          go_simp
        try simp only [Act.put, List.setIfInBounds_toArray, List.set_cons_zero, List.set_cons_succ]
        refine wpAnyH_done (by kernel_rfl) ?_ _
        have HB6 := Lib.hid (HB4.out.trans (b46.mono HB4.out.size))
        have HG6 := Lib.hid ((HG.out.below b46).more b46.size)
        have HW6 := Lib.hid ((HW.out.below b46).more b46.size)
        clear b46 b6 b45 b5 hS0 hS1 hS2 HKS HI5 HI9 HG HW HB4 bd
        go_wp2_with fail
        go_loopw [5] (fun vi wr => ∃ j : Nat, j ≤ us.length ∧ vi = .int .i64 j ∧ Below w6.heap.size w6 wr) (fun vi _ => us.length - (intOf vi).toNat)
        case atStart => exact ⟨0, Nat.zero_le _, rfl, Below.refl _ _⟩
        case round =>
          obtain ⟨j, hj, rfl, hBr⟩ := hrel
          have HBr := Lib.hid hBr
          have szr := hBr.size
          clear hBr
          by_cases hlt : j < us.length
          · skip
            have d1 : decide ((j : Int) < (us.length : Int)) = true := decide_eq_true (by omega)
            obtain ⟨b1, o1, rfl, _, hb1, c0⟩ := (HG6.out.below HBr.out).str (i := j) (by simpa using hlt)
            obtain ⟨b2, o2, hA2, _, hb2, c1⟩ := (HW6.out.below HBr.out).str (i := j) (by simpa using hlt)
            subst hA2
            have l1 := Nat.lt_of_lt_of_le hb1 szr
            have l2 := Nat.lt_of_lt_of_le hb2 szr
            generalize (us)[j]'(by simpa using hlt) = u at *
            have e1 : (u.toList != u.toList) = false := by simp
            go_wp2_with fail
            go_quiet (fail)
            go_wp2_with fail
            go_roundw
            case rel => exact ⟨j + 1, by omega, by go_num, Law.below_drewN HBr.out nq⟩
            case measure => simp [intOf]; omega
          · have d1 : decide ((j : Int) < (us.length : Int)) = false := decide_eq_false (by omega)
            have HBF := Lib.hid (HB6.out.trans (HBr.out.mono HB6.out.size))
            go_wp2_with fail
            go_ret
            exact ⟨rfl, HBF.out⟩
      · have k4 : (kind == 4) = false := by simpa using h4
        have k5 : (kind == 5) = false := by simpa using h5
        go_wp2_with fail
        have HX0 := HX3
        have HI0 := HI3
        have HB0 := HB3
        refine (users0 kind h4 h5 user id st pr ttl (.slice A us.length c) w3).mono ?_
        rintro e w4 ⟨A3, c3, rfl, hs3, b4⟩
        have HX4 := Lib.hid (HX0.out.below b4 HX0.out.lt)
        have HI4 := Lib.hid (HI0.out.below b4)
        have HB4 := Lib.hid (HB0.out.trans (b4.mono HB0.out.size))
        have HG := Lib.hid (hs3.from_ (Nat.zero_le _))
        have HW : Hid (Seq w4 0 w4.heap.size none (([] : List ByteArray).map .string)) := fun h => absurd rfl h
        clear x0 x1 x2 x3 x4 x5 x6 lx hs3 b4
        have x0 : w4.cell? ⟨w.heap.size, 0, none⟩ = some (.int .i64 kind) := HX4.out.cell' rfl
        have x1 : w4.cell? ⟨w.heap.size, 1, none⟩ = some (.string user) := HX4.out.cell' rfl
        have x2 : w4.cell? ⟨w.heap.size, 2, none⟩ = some (.int .i64 id) := HX4.out.cell' rfl
        have x3 : w4.cell? ⟨w.heap.size, 3, none⟩ = some (.int .i64 st) := HX4.out.cell' rfl
        have x4 : w4.cell? ⟨w.heap.size, 4, none⟩ = some (.int .i64 pr) := HX4.out.cell' rfl
        have x5 : w4.cell? ⟨w.heap.size, 5, none⟩ = some (.int .u64 ttl) := HX4.out.cell' rfl
        have x6 : w4.cell? ⟨w.heap.size, 6, none⟩ = some (.slice A us.length c) := HX4.out.cell' rfl
        have lx := HX4.out.lt
        obtain ⟨gb, hgb⟩ : ∃ gb, (!goodB ⟨kind, user, id, st, pr, ttl, A, c, us⟩) = gb := ⟨_, rfl⟩
        have HGB := Lib.hid hgb
        have eg : (gb != gb) = false := by simp
        clear hgb
        have el : ((0 : Int) != (0 : Int)) = false := by simp
        have bd : Below w4.heap.size w4 w4.drew := Law.below_drewN (Below.refl _ w4) 1
        have HKS : Hid (∀ w', Below w4.heap.size w4 w' → (w'.cell? ⟨w.heap.size, 0, none⟩ = some (.int .i64 kind) ∧ w'.cell? ⟨w.heap.size, 1, none⟩ = some (.string user) ∧ w'.cell? ⟨w.heap.size, 2, none⟩ = some (.int .i64 id) ∧ w'.cell? ⟨w.heap.size, 3, none⟩ = some (.int .i64 st) ∧ w'.cell? ⟨w.heap.size, 4, none⟩ = some (.int .i64 pr) ∧ w'.cell? ⟨w.heap.size, 5, none⟩ = some (.int .u64 ttl) ∧ w'.cell? ⟨w.heap.size, 6, none⟩ = some (.slice A us.length c) ∧ w.heap.size < w'.heap.size)) := fun w' K => ⟨(K.cell (p := ⟨w.heap.size, 0, none⟩) HX4.out.lt).trans (HX4.out.cell' rfl), (K.cell (p := ⟨w.heap.size, 1, none⟩) HX4.out.lt).trans (HX4.out.cell' rfl), (K.cell (p := ⟨w.heap.size, 2, none⟩) HX4.out.lt).trans (HX4.out.cell' rfl), (K.cell (p := ⟨w.heap.size, 3, none⟩) HX4.out.lt).trans (HX4.out.cell' rfl), (K.cell (p := ⟨w.heap.size, 4, none⟩) HX4.out.lt).trans (HX4.out.cell' rfl), (K.cell (p := ⟨w.heap.size, 5, none⟩) HX4.out.lt).trans (HX4.out.cell' rfl), (K.cell (p := ⟨w.heap.size, 6, none⟩) HX4.out.lt).trans (HX4.out.cell' rfl), Nat.lt_of_lt_of_le HX4.out.lt K.size⟩
        have HI9 : Hid (OpW.In ⟨kind, user, id, st, pr, ttl, A, c, us⟩ w4.drew) := HI4.out.below bd
        go_upto_region 9 with (fail)
        refine wp_region_held_drew (S := fun w' => w'.cell? ⟨w.heap.size, 0, none⟩ = some (.int .i64 kind) ∧ w'.cell? ⟨w.heap.size, 1, none⟩ = some (.string user) ∧ w'.cell? ⟨w.heap.size, 2, none⟩ = some (.int .i64 id) ∧ w'.cell? ⟨w.heap.size, 3, none⟩ = some (.int .i64 st) ∧ w'.cell? ⟨w.heap.size, 4, none⟩ = some (.int .i64 pr) ∧ w'.cell? ⟨w.heap.size, 5, none⟩ = some (.int .u64 ttl) ∧ w'.cell? ⟨w.heap.size, 6, none⟩ = some (.slice A us.length c) ∧ w.heap.size < w'.heap.size) (by kernel_rfl) (HKS.out _ bd) (fun hS0 => ?_)
        refine wpAnyH_take (i := 0) (oi := { dst := some 27, op := .load 37 (.tmp 1), type := _, pos := _, after := _, guard := _ }) (v := .agg #[.int .i64 kind, .string user, .int .i64 id, .int .i64 st, .int .i64 pr, .int .u64 ttl, .slice A us.length c]) rfl (by kernel_rfl) (by kernel_rfl) (by kernel_rfl) (fun _ _ _ h => h) (Or.inl ⟨by rfl, ?_⟩) hS0 ?_
        · intro w' hSw
          obtain ⟨s0, s1, s2, s3, s4, s5, s6, s7⟩ := hSw
          go_simp
        try simp only [Act.put, List.setIfInBounds_toArray, List.set_cons_zero, List.set_cons_succ]
        refine wpAnyH_take (i := 2) (oi := { dst := some 29, op := .load 37 (.tmp 1), type := _, pos := _, after := _, guard := _ }) (v := .agg #[.int .i64 kind, .string user, .int .i64 id, .int .i64 st, .int .i64 pr, .int .u64 ttl, .slice A us.length c]) rfl (by kernel_rfl) (by kernel_rfl) (by kernel_rfl) (fun _ _ _ h => h) (Or.inl ⟨by rfl, ?_⟩) hS0 ?_
        · intro w' hSw
          obtain ⟨s0, s1, s2, s3, s4, s5, s6, s7⟩ := hSw
          go_simp
        try simp only [Act.put, List.setIfInBounds_toArray, List.set_cons_zero, List.set_cons_succ]
        clear HX4 HI4 x0 x1 x2 x3 x4 x5 x6 lx
        refine wpAnyH_ready (rs := [1]) (by kernel_rfl) (by simp) ?_
        refine AllReadyH.cons (o := { dst := some 28, op := .call { callee := .value (.func 29), args := #[.tmp 27], argTypes := _ }, type := _, pos := _, after := _, guard := _ }) rfl (fun K hK => ?_) AllReadyH.nil
        go_simp
        refine Calls.mono (bad ⟨kind, user, id, st, pr, ttl, A, c, us⟩ HI9.out HGB.out) ?_
        rintro e w5 ⟨rfl, b5⟩
        have b45 : Below w4.heap.size w4 w5 := bd.trans (b5.mono (Nat.le_refl _))
        have HI5 := Lib.hid (HI9.out.below b5)
        go_wp2_with fail
        refine hK.out _ _ (HKS.out _ b45) (fun hS1 => ?_)
        clear hK K
        try simp only [Act.put, List.setIfInBounds_toArray, List.set_cons_zero, List.set_cons_succ]
        refine wpAnyH_ready (rs := [3]) (by kernel_rfl) (by simp) ?_
        refine AllReadyH.cons (o := { dst := some 30, op := .call { callee := .value (.func 30), args := #[.tmp 29], argTypes := _ }, type := _, pos := _, after := _, guard := _ }) rfl (fun K hK => ?_) AllReadyH.nil
        go_simp
        refine Calls.mono (rbad ⟨kind, user, id, st, pr, ttl, A, c, us⟩ HI5.out (by show us.length ≤ 1000; omega) HGB.out) ?_
        rintro e w6 ⟨rfl, b6⟩
        have b46 : Below w4.heap.size w4 w6 := b45.trans (b6.mono b45.size)
        go_wp2_with fail
        refine hK.out _ _ (HKS.out _ b46) (fun hS2 => ?_)
        clear hK K
        try simp only [Act.put, List.setIfInBounds_toArray, List.set_cons_zero, List.set_cons_succ]
        refine wpAnyH_take (i := 4) (oi := { dst := some 31, op := .binOp .neq 4 (.tmp 28) (.tmp 30) 4, type := _, pos := _, after := _, guard := _ }) (v := .bool false) rfl (by kernel_rfl) (by kernel_rfl) (by kernel_rfl) (fun _ _ _ h => h) (Or.inl ⟨by rfl, ?_⟩) hS2 ?_
        · intro w' hSw
          go_simp
        try simp only [Act.put, List.setIfInBounds_toArray, List.set_cons_zero, List.set_cons_succ]
        refine wpAnyH_take (i := 5) (oi := { dst := some 32, op := .move (.tmp 31), type := _, pos := _, after := _, guard := _ }) (v := .bool false) rfl (by kernel_rfl) (by kernel_rfl) (by kernel_rfl) (fun _ _ _ h => h) (Or.inl ⟨by rfl, ?_⟩) hS2 ?_
        · intro w' hSw
          go_simp
        try simp only [Act.put, List.setIfInBounds_toArray, List.set_cons_zero, List.set_cons_succ]
        refine wpAnyH_take (i := 6) (oi := { dst := some 33, op := .move (.tmp 4), type := _, pos := _, after := _, guard := _ }) (v := .slice A3 0 c3) rfl (by kernel_rfl) (by kernel_rfl) (by kernel_rfl) (fun _ _ _ h => h) (Or.inl ⟨by rfl, ?_⟩) hS2 ?_
        · intro w' hSw
          go_simp
        try simp only [Act.put, List.setIfInBounds_toArray, List.set_cons_zero, List.set_cons_succ]
        refine wpAnyH_take (i := 7) (oi := { dst := some 34, op := .call { callee := .builtin .len, args := #[.tmp 33], argTypes := #[35] }, type := _, pos := _, after := _, guard := _ }) (v := .int .i64 (0 : Int)) rfl (by kernel_rfl) (by kernel_rfl) (by kernel_rfl) (fun _ _ _ h => h) (Or.inl ⟨by rfl, ?_⟩) hS2 ?_
        · intro w' hSw
          go_simp
        try simp only [Act.put, List.setIfInBounds_toArray, List.set_cons_zero, List.set_cons_succ]
        refine wpAnyH_take (i := 8) (oi := { dst := some 35, op := .move (.tmp 3), type := _, pos := _, after := _, guard := _ }) (v := .slice none 0 0) rfl (by kernel_rfl) (by kernel_rfl) (by kernel_rfl) (fun _ _ _ h => h) (Or.inl ⟨by rfl, ?_⟩) hS2 ?_
        · intro w' hSw
          go_simp
        try simp only [Act.put, List.setIfInBounds_toArray, List.set_cons_zero, List.set_cons_succ]
        refine wpAnyH_take (i := 9) (oi := { dst := some 36, op := .call { callee := .builtin .len, args := #[.tmp 35], argTypes := #[35] }, type := _, pos := _, after := _, guard := _ }) (v := .int .i64 (0 : Int)) rfl (by kernel_rfl) (by kernel_rfl) (by kernel_rfl) (fun _ _ _ h => h) (Or.inl ⟨by rfl, ?_⟩) hS2 ?_
        · intro w' hSw
          go_simp
        try simp only [Act.put, List.setIfInBounds_toArray, List.set_cons_zero, List.set_cons_succ]
        refine wpAnyH_take (i := 10) (oi := { dst := some 37, op := .binOp .neq 3 (.tmp 34) (.tmp 36) 3, type := _, pos := _, after := _, guard := _ }) (v := .bool false) rfl (by kernel_rfl) (by kernel_rfl) (by kernel_rfl) (fun _ _ _ h => h) (Or.inl ⟨by rfl, ?_⟩) hS2 ?_
        · intro w' hSw
          go_simp
        try simp only [Act.put, List.setIfInBounds_toArray, List.set_cons_zero, List.set_cons_succ]
        refine wpAnyH_take (i := 11) (oi := { dst := some 38, op := .pick (.tmp 32) (.const (.bool true)) (.tmp 37), type := _, pos := _, after := _, guard := _ }) (v := .bool false) rfl (by kernel_rfl) (by kernel_rfl) (by kernel_rfl) (fun _ _ _ h => h) (Or.inl ⟨by rfl, ?_⟩) hS2 ?_
        · intro w' hSw
          go_simp
        try simp only [Act.put, List.setIfInBounds_toArray, List.set_cons_zero, List.set_cons_succ]
        refine wpAnyH_done (by kernel_rfl) ?_ _
        have HB6 := Lib.hid (HB4.out.trans (b46.mono HB4.out.size))
        have HG6 := Lib.hid ((HG.out.below b46).more b46.size)
        have HW6 := Lib.hid ((HW.out.below b46).more b46.size)
        clear b46 b6 b45 b5 hS0 hS1 hS2 HKS HI5 HI9 HG HW HB4 bd
        go_wp2_with fail
        go_loopw [5] (fun vi wr => ∃ j : Nat, j ≤ 0 ∧ vi = .int .i64 j ∧ Below w6.heap.size w6 wr) (fun vi _ => 0 - (intOf vi).toNat)
        case atStart => exact ⟨0, Nat.zero_le _, rfl, Below.refl _ _⟩
        case round =>
          obtain ⟨j, hj, rfl, hBr⟩ := hrel
          have HBr := Lib.hid hBr
          have szr := hBr.size
          clear hBr
          by_cases hlt : j < 0
          · exact absurd hlt (Nat.not_lt_zero j)
          · have d1 : decide ((j : Int) < (0 : Int)) = false := decide_eq_false (by omega)
            have HBF := Lib.hid (HB6.out.trans (HBr.out.mono HB6.out.size))
            go_wp2_with fail
            go_ret
            exact ⟨rfl, HBF.out⟩

set_option maxRecDepth 100000 in
theorem lifted (os : Os) (started : os.Started) (H : Type) (enc : TypeId × Value → H) :
    ReturnsInHanded {} Tryz.checked os 4 .any (Rows.modelBadSpec.pre6 enc Tryz.prog Tryz.f4 Rows.modelBadRow.domain false) (Rows.modelBadSpec.post enc Tryz.prog Tryz.f4 false true false false) := by
  refine returnsInHanded_of_change (C := Tryz.checked) own started (by kernel_rfl) Tryz.func4
    (ChangeSpec.witness6 (enc := enc) (C := Tryz.checked) false ⟨#[], #[.agg #[.int .i64 0, .string ⟨#[]⟩, .int .i64 0, .int .i64 0, .int .i64 0, .int .u64 0, .slice none 0 0]], []⟩ 8 (by kernel_rfl) (by kernel_rfl) (by kernel_rfl) (by kernel_rfl)) ?_
  intro W base args ds gs before hval0 hW hcnd _
  have hval : ∀ (j : Nat) t v, Tryz.f4.params[j]? = some t → args[j]? = some v → Value.okWide Tryz.prog W .any base t v := hval0
  have hW' := hW
  obtain ⟨p, q, hA0, hV, rfl, hfz, hnd⟩ := hW
  have hA : DataW.TrodAll enc Tryz.prog W 0 (fun _ => true) true Tryz.f4.params.toList args.toList ds p := hA0
  rw [Tryz.params4] at hA hval
  obtain ⟨v0, vs0, d0, ds0, p0, q0, hargs, rfl, rfl, h0, r0⟩ := trodAll_cons hA
  obtain ⟨rfl, rfl, rfl⟩ := trodAll_nil r0
  obtain rfl : args = #[v0] := by cases args; simp_all
  obtain ⟨q, rfl, hq⟩ := open_op (hval 0 37 v0 rfl rfl) h0
  refine (walk q W hq).mono fun e W' ⟨he, bel⟩ => ?_
  subst he
  exact ⟨_, rfl, Law.post_law laidOut (by kernel_rfl) (by kernel_rfl) Tryz.underlying4 rfl (fun ds h => by match ds, h with | [_], _ => rfl) hW' bel⟩

theorem proved : Rows.ModelBadSaid :=
  OpenClaim.holds_of_wide 4 Tryz.f4 rfl rfl rfl rfl rfl rfl rfl ⟨rfl, rfl, rfl, rfl, rfl⟩ rfl rfl rfl rfl rfl (by kernel_rfl) Tryz.func4 (by kernel_rfl)
    (of_decide_eq_true (by kernel_rfl)) (by unfold Func.isWrapper; rw [if_neg (by decide +kernel)]; exact ⟨rfl, rfl⟩)
    (fun os started H enc _ => lifted os started H enc)
#print axioms proved
end modelBad
end Go.Proofs.YtombdjkfbjpipaaGreat
