/-
  The reference's Line (layer 11).
-/
import Derived.Test.YtjllofcfcecfbaaDoorOpRefR
import Derived.Test.YtjllofcfcecfbaaDoorOpDec
namespace Go.Proofs.YtjllofcfcecfbaaDoor
open Go.RowKit Go.Shelf Go.Lib
attribute [local go_sem] Oper.semAt_some
namespace Opx
open Go.Law
theorem join_two (a b : ByteArray) (r : List ByteArray) : joinB (a :: b :: r) = a ++ ((⟨#[32]⟩ : ByteArray) ++ joinB (b :: r)) := by
  show (⟨(Lib.join ((a :: b :: r).map (·.data.toList)) [32]).toArray⟩ : ByteArray) = a ++ ((⟨#[32]⟩ : ByteArray) ++ ⟨(Lib.join ((b :: r).map (·.data.toList)) [32]).toArray⟩)
  apply ByteArray.ext
  rw [ByteArray.data_append, ByteArray.data_append]
  simp [Lib.join, List.intercalate]
set_option maxRecDepth 100000 in
theorem rNames (w : World) : Calls Tryd.prog 9 #[] w fun e w' => ∃ D, e = .returned (.slice (some ⟨D, 0, none⟩) 10 10) ∧ (∀ k u, nameL[k]? = some u → w'.cell? ⟨D, k, none⟩ = some (.string u)) ∧ Below w.heap.size w w' := by
  have hc := seq_new w 9 nameL
  have HC := Lib.hid hc
  clear hc
  go_enter Tryd.func9, Tryd.ntmps9
  go_wp2_with fail
  go_ret
  exact ⟨_, rfl, fun k u h => by have := HC.out k u h; rw [Nat.zero_add] at this; exact this, (Below.refl _ w).alloc (Nat.le_refl _) _⟩
theorem kind_getD (k : Nat) (h : k < 10) : kindB (k : Int) = nameL.getD k ⟨#[]⟩ := by
  unfold kindB
  rw [if_pos (by omega), Int.toNat_natCast]
theorem name_at (k : Nat) (h : k < 10) : nameL[k]? = some (kindB (k : Int)) := by
  rw [kind_getD k h]
  have hk : k < nameL.length := h
  rw [List.getElem?_eq_getElem hk, List.getD_eq_getElem?_getD, List.getElem?_eq_getElem hk]
  rfl
set_option maxRecDepth 100000 in
set_option maxHeartbeats 8000000 in
theorem rLine (q : OpW) (hs : shortB q = true) (w : World) (h : q.In w) (hT : Tabs w) : Calls Tryd.prog 11 #[.agg q.box] w fun e w' => e = .returned (.string (lineB q)) ∧ Below w.heap.size w w' := by
  obtain ⟨kind, user, id, st, pr, ttl, A, c, us⟩ := q
  have hss := hs
  unfold shortB at hss
  simp only [Bool.and_eq_true, decide_eq_true_eq, List.all_eq_true] at hss
  obtain ⟨hu, hl, hus⟩ := hss
  have kid := h.id
  have kst := h.st
  have kpr := h.pr
  have kttl := h.ttl
  simp only at kid kst kpr kttl
  obtain ⟨tn, rfl⟩ := Int.eq_ofNat_of_zero_le kttl.1
  have htn : tn < 18446744073709551616 := by omega
  have bb := (Below.refl w.heap.size w).alloc (Nat.le_refl _) (.cells #[.int .i64 kind, .string user, .int .i64 id, .int .i64 st, .int .i64 pr, .int .u64 (tn : Int), .slice A us.length c] 25)
  have HX := Lib.hid (Is.new w 25 #[.int .i64 kind, .string user, .int .i64 id, .int .i64 st, .int .i64 pr, .int .u64 (tn : Int), .slice A us.length c] rfl)
  have HB := Lib.hid bb
  have HTb := Lib.hid (hT.below bb)
  have HU := Lib.hid ((h.us.below bb).more bb.size)
  have HUS := Lib.hid hus
  have iu := quoteB_size user
  have i1 := intB_size id kid
  have i2 := intB_size st kst
  have i3 := intB_size pr kpr
  have i4 := decB_size tn htn
  have HQ := Lib.hid (fun W (hT : Tabs W) => quote user (by omega) W hT)
  have HID := Lib.hid (fun W => rInt id kid.1 kid.2 W)
  have HST := Lib.hid (fun W => rInt st kst.1 kst.2 W)
  have HPR := Lib.hid (fun W => rInt pr kpr.1 kpr.2 W)
  have HTL := Lib.hid (fun W => digitsR tn htn W)
  have h32 : (⟨#[32]⟩ : ByteArray).size = 1 := rfl
  clear hs h hT bb hus
  show Calls _ _ #[.agg #[.int .i64 kind, .string user, .int .i64 id, .int .i64 st, .int .i64 pr, .int .u64 (tn : Int), .slice A us.length c]] _ _
  by_cases hr : 1 ≤ kind ∧ kind ≤ 9
  · rcases (show kind = 1 ∨ kind = 2 ∨ kind = 3 ∨ kind = 4 ∨ kind = 5 ∨ kind = 6 ∨ kind = 7 ∨ kind = 8 ∨ kind = 9 by omega) with rfl | rfl | rfl | rfl | rfl | rfl | rfl | rfl | rfl
    · obtain ⟨nm, hnm⟩ : ∃ nm, kindB 1 = nm := ⟨_, rfl⟩
      have hns := kindB_size 1
      rw [hnm] at hns
      have hna := name_at 1 (by decide)
      rw [show ((1 : Nat) : Int) = 1 from rfl, hnm] at hna
      have HLN : Hid (lineB ⟨1, user, id, st, pr, (tn : Int), A, c, us⟩ = ((((((((nm ++ (⟨#[32]⟩ ++ quoteB user)) ++ ⟨#[32]⟩) ++ intB id) ++ ⟨#[32]⟩) ++ intB st) ++ ⟨#[32]⟩) ++ intB pr) ++ ⟨#[32]⟩) ++ decB tn) := by
        show _ = _
        have e : lineB ⟨1, user, id, st, pr, (tn : Int), A, c, us⟩ = joinB (nm :: [quoteB user, intB id, intB st, intB pr, decB tn]) := by rw [← hnm]; rfl
        rw [e]
        simp only [join_two, join_one] <;> (apply ByteArray.ext; simp only [ByteArray.data_append, Array.append_assoc])
      rw [HLN.out]
      clear hnm HLN
      go_enter Tryd.func11, Tryd.ntmps11
      go_wp2_with fail
      generalize w.alloc (.cells #[.int .i64 1, .string user, .int .i64 id, .int .i64 st, .int .i64 pr, .int .u64 (tn : Int), .slice A us.length c] 25) = w1 at *
      have x0 : w1.cell? ⟨w.heap.size, 0, none⟩ = some (.int .i64 1) := HX.out.cell' rfl
      have x1 : w1.cell? ⟨w.heap.size, 1, none⟩ = some (.string user) := HX.out.cell' rfl
      have x2 : w1.cell? ⟨w.heap.size, 2, none⟩ = some (.int .i64 id) := HX.out.cell' rfl
      have x3 : w1.cell? ⟨w.heap.size, 3, none⟩ = some (.int .i64 st) := HX.out.cell' rfl
      have x4 : w1.cell? ⟨w.heap.size, 4, none⟩ = some (.int .i64 pr) := HX.out.cell' rfl
      have x5 : w1.cell? ⟨w.heap.size, 5, none⟩ = some (.int .u64 (tn : Int)) := HX.out.cell' rfl
      have x6 : w1.cell? ⟨w.heap.size, 6, none⟩ = some (.slice A us.length c) := HX.out.cell' rfl
      have lx := HX.out.lt
      go_wp2_with fail
      refine wp_region_held_drew (S := fun w' => w'.cell? ⟨w.heap.size, 0, none⟩ = some (.int .i64 1)) (by kernel_rfl) x0 (fun hS0 => ?_)
      refine wpAnyH_take (i := 1) (oi := { dst := some 15, op := .fieldAddr 25 (.tmp 1) 0, type := _, pos := _, after := _, guard := _ }) (v := .pointer (some ⟨w.heap.size, 0, none⟩)) rfl (by kernel_rfl) (by kernel_rfl) (by kernel_rfl) (fun _ _ _ h => h) (Or.inl ⟨by rfl, ?_⟩) hS0 ?_
      · intro w' hSw
        go_simp
      try simp only [Act.put, List.setIfInBounds_toArray, List.set_cons_zero, List.set_cons_succ]
      refine wpAnyH_take (i := 2) (oi := { dst := some 16, op := .load 3 (.tmp 15), type := _, pos := _, after := _, guard := _ }) (v := .int .i64 1) rfl (by kernel_rfl) (by kernel_rfl) (by kernel_rfl) (fun _ _ _ h => h) (Or.inl ⟨by rfl, ?_⟩) hS0 ?_
      · intro w' hSw
        go_simp
      try simp only [Act.put, List.setIfInBounds_toArray, List.set_cons_zero, List.set_cons_succ]
      have HX2 : Hid (Is w1.drew w.heap.size 25 #[.int .i64 1, .string user, .int .i64 id, .int .i64 st, .int .i64 pr, .int .u64 (tn : Int), .slice A us.length c]) := HX.out.drewN 1
      have HB2 : Hid (Below w.heap.size w w1.drew) := Lib.hid (Law.below_drewN HB.out 1)
      have HT2 := Lib.hid (HTb.out.below (Law.below_drewN (Below.refl w1.heap.size w1) 1))
      have HU2 := Lib.hid ((HU.out.below (Law.below_drewN (Below.refl w1.heap.size w1) 1)).more (Nat.le_refl _))
      refine wpAnyH_ready (rs := [0]) (by kernel_rfl) (by simp) ?_
      refine AllReadyH.cons (o := { dst := some 14, op := .call { callee := .value (.func 9), args := #[], argTypes := _ }, type := _, pos := _, after := _, guard := _ }) rfl (fun K hK => ?_) AllReadyH.nil
      go_simp
      refine Calls.mono (rNames w1.drew) ?_
      rintro e w3 ⟨D, rfl, hD, b3⟩
      have HX3 := Lib.hid (HX2.out.below b3 HX2.out.lt)
      have HB3 := Lib.hid (HB2.out.trans (b3.mono HB2.out.size))
      have HT3 := Lib.hid (HT2.out.below b3)
      have HU3 := Lib.hid ((HU2.out.below b3).more b3.size)
      have cD := hD 1 nm hna
      have lD := World.block_lt_of_cell? _ _ cD
      simp only at lD
      clear b3 hD hna
      go_wp2_with fail
      refine hK.out _ _ (HX3.out.cell' rfl) (fun hS1 => ?_)
      clear hK K
      try simp only [Act.put, List.setIfInBounds_toArray, List.set_cons_zero, List.set_cons_succ]
      refine wpAnyH_take (i := 3) (oi := { dst := some 17, op := .indexAddr 23 (.tmp 14) (.tmp 16), type := _, pos := _, after := _, guard := _ }) (v := .pointer (some ⟨D, 1, none⟩)) rfl (by kernel_rfl) (by kernel_rfl) (by kernel_rfl) (fun _ _ _ h => h) (Or.inl ⟨by rfl, ?_⟩) hS1 ?_
      · intro w' hSw
        go_simp
      try simp only [Act.put, List.setIfInBounds_toArray, List.set_cons_zero, List.set_cons_succ]
      refine wpAnyH_ready (rs := [4]) (by kernel_rfl) (by simp) ?_
      refine AllReadyH.cons (o := { dst := some 18, op := .load 9 (.tmp 17), type := _, pos := _, after := _, guard := _ }) rfl (fun K hK => ?_) AllReadyH.nil
      go_simp
      refine hK.out _ _ (HX3.out.cell' rfl) (fun hS2 => ?_)
      clear hK K
      try simp only [Act.put, List.setIfInBounds_toArray, List.set_cons_zero, List.set_cons_succ]
      refine wpAnyH_take (i := 5) (oi := { dst := some 3, op := .assign (.tmp 18), type := _, pos := _, after := _, guard := _ }) (v := .string nm) rfl (by kernel_rfl) (by kernel_rfl) (by kernel_rfl) (fun _ _ _ h => h) (Or.inl ⟨by rfl, ?_⟩) hS2 ?_
      · intro w' hSw
        go_simp
      try simp only [Act.put, List.setIfInBounds_toArray, List.set_cons_zero, List.set_cons_succ]
      refine wpAnyH_done (by kernel_rfl) ?_ _
      clear x0 x1 x2 x3 x4 x5 x6 lx cD
      have x0 : w3.cell? ⟨w.heap.size, 0, none⟩ = some (.int .i64 1) := HX3.out.cell' rfl
      have x1 : w3.cell? ⟨w.heap.size, 1, none⟩ = some (.string user) := HX3.out.cell' rfl
      have x2 : w3.cell? ⟨w.heap.size, 2, none⟩ = some (.int .i64 id) := HX3.out.cell' rfl
      have x3 : w3.cell? ⟨w.heap.size, 3, none⟩ = some (.int .i64 st) := HX3.out.cell' rfl
      have x4 : w3.cell? ⟨w.heap.size, 4, none⟩ = some (.int .i64 pr) := HX3.out.cell' rfl
      have x5 : w3.cell? ⟨w.heap.size, 5, none⟩ = some (.int .u64 (tn : Int)) := HX3.out.cell' rfl
      have x6 : w3.cell? ⟨w.heap.size, 6, none⟩ = some (.slice A us.length c) := HX3.out.cell' rfl
      have lx := HX3.out.lt
      go_wp2_with fail
      refine (HQ.out w3 HT3.out).mono ?_
      rintro e w4 ⟨rfl, b4⟩
      have HX4 := Lib.hid (HX3.out.below b4 HX3.out.lt)
      have HB4 := Lib.hid (HB3.out.trans (b4.mono HB3.out.size))
      have HT4 := Lib.hid (HT3.out.below b4)
      have HU4 := Lib.hid ((HU3.out.below b4).more b4.size)
      clear b4 x0 x1 x2 x3 x4 x5 x6 lx
      have x0 : w4.cell? ⟨w.heap.size, 0, none⟩ = some (.int .i64 1) := HX4.out.cell' rfl
      have x1 : w4.cell? ⟨w.heap.size, 1, none⟩ = some (.string user) := HX4.out.cell' rfl
      have x2 : w4.cell? ⟨w.heap.size, 2, none⟩ = some (.int .i64 id) := HX4.out.cell' rfl
      have x3 : w4.cell? ⟨w.heap.size, 3, none⟩ = some (.int .i64 st) := HX4.out.cell' rfl
      have x4 : w4.cell? ⟨w.heap.size, 4, none⟩ = some (.int .i64 pr) := HX4.out.cell' rfl
      have x5 : w4.cell? ⟨w.heap.size, 5, none⟩ = some (.int .u64 (tn : Int)) := HX4.out.cell' rfl
      have x6 : w4.cell? ⟨w.heap.size, 6, none⟩ = some (.slice A us.length c) := HX4.out.cell' rfl
      have lx := HX4.out.lt
      go_wp2_with fail
      refine wp_region_held_drew (S := fun w' => w'.cell? ⟨w.heap.size, 0, none⟩ = some (.int .i64 1) ∧ w'.cell? ⟨w.heap.size, 1, none⟩ = some (.string user) ∧ w'.cell? ⟨w.heap.size, 2, none⟩ = some (.int .i64 id) ∧ w'.cell? ⟨w.heap.size, 3, none⟩ = some (.int .i64 st) ∧ w'.cell? ⟨w.heap.size, 4, none⟩ = some (.int .i64 pr) ∧ w'.cell? ⟨w.heap.size, 5, none⟩ = some (.int .u64 (tn : Int)) ∧ w'.cell? ⟨w.heap.size, 6, none⟩ = some (.slice A us.length c)) (by kernel_rfl) ⟨x0, x1, x2, x3, x4, x5, x6⟩ (fun hS0 => ?_)
      refine wpAnyH_take (i := 0) (oi := { dst := some 27, op := .move (.tmp 3), type := _, pos := _, after := _, guard := _ }) (v := .string nm) rfl (by kernel_rfl) (by kernel_rfl) (by kernel_rfl) (fun _ _ _ h => h) (Or.inl ⟨by rfl, ?_⟩) hS0 ?_
      · intro w' hSw
        go_simp
      try simp only [Act.put, List.setIfInBounds_toArray, List.set_cons_zero, List.set_cons_succ]
      refine wpAnyH_take (i := 1) (oi := { dst := some 28, op := .move (.tmp 4), type := _, pos := _, after := _, guard := _ }) (v := .string (⟨#[32]⟩ ++ quoteB user)) rfl (by kernel_rfl) (by kernel_rfl) (by kernel_rfl) (fun _ _ _ h => h) (Or.inl ⟨by rfl, ?_⟩) hS0 ?_
      · intro w' hSw
        go_simp
      try simp only [Act.put, List.setIfInBounds_toArray, List.set_cons_zero, List.set_cons_succ]
      refine wpAnyH_take (i := 2) (oi := { dst := some 29, op := .binOp .add 9 (.tmp 27) (.tmp 28) 9, type := _, pos := _, after := _, guard := _ }) (v := .string (nm ++ (⟨#[32]⟩ ++ quoteB user))) rfl (by kernel_rfl) (by kernel_rfl) (by kernel_rfl) (fun _ _ _ h => h) (Or.inl ⟨by rfl, ?_⟩) hS0 ?_
      · intro w' hSw
        go_simp
        omega
      try simp only [Act.put, List.setIfInBounds_toArray, List.set_cons_zero, List.set_cons_succ]
      refine wpAnyH_take (i := 4) (oi := { dst := some 31, op := .fieldAddr 25 (.tmp 1) 2, type := _, pos := _, after := _, guard := _ }) (v := .pointer (some ⟨w.heap.size, 2, none⟩)) rfl (by kernel_rfl) (by kernel_rfl) (by kernel_rfl) (fun _ _ _ h => h) (Or.inl ⟨by rfl, ?_⟩) hS0 ?_
      · intro w' hSw
        go_simp
      try simp only [Act.put, List.setIfInBounds_toArray, List.set_cons_zero, List.set_cons_succ]
      refine wpAnyH_take (i := 5) (oi := { dst := some 32, op := .load 3 (.tmp 31), type := _, pos := _, after := _, guard := _ }) (v := .int .i64 id) rfl (by kernel_rfl) (by kernel_rfl) (by kernel_rfl) (fun _ _ _ h => h) (Or.inl ⟨by rfl, ?_⟩) hS0 ?_
      · intro w' hSw
        obtain ⟨s0, s1, s2, s3, s4, s5, s6⟩ := hSw
        go_simp
      try simp only [Act.put, List.setIfInBounds_toArray, List.set_cons_zero, List.set_cons_succ]
      refine wpAnyH_take (i := 9) (oi := { dst := some 36, op := .fieldAddr 25 (.tmp 1) 3, type := _, pos := _, after := _, guard := _ }) (v := .pointer (some ⟨w.heap.size, 3, none⟩)) rfl (by kernel_rfl) (by kernel_rfl) (by kernel_rfl) (fun _ _ _ h => h) (Or.inl ⟨by rfl, ?_⟩) hS0 ?_
      · intro w' hSw
        go_simp
      try simp only [Act.put, List.setIfInBounds_toArray, List.set_cons_zero, List.set_cons_succ]
      refine wpAnyH_take (i := 10) (oi := { dst := some 37, op := .load 3 (.tmp 36), type := _, pos := _, after := _, guard := _ }) (v := .int .i64 st) rfl (by kernel_rfl) (by kernel_rfl) (by kernel_rfl) (fun _ _ _ h => h) (Or.inl ⟨by rfl, ?_⟩) hS0 ?_
      · intro w' hSw
        obtain ⟨s0, s1, s2, s3, s4, s5, s6⟩ := hSw
        go_simp
      try simp only [Act.put, List.setIfInBounds_toArray, List.set_cons_zero, List.set_cons_succ]
      refine wpAnyH_take (i := 14) (oi := { dst := some 41, op := .fieldAddr 25 (.tmp 1) 4, type := _, pos := _, after := _, guard := _ }) (v := .pointer (some ⟨w.heap.size, 4, none⟩)) rfl (by kernel_rfl) (by kernel_rfl) (by kernel_rfl) (fun _ _ _ h => h) (Or.inl ⟨by rfl, ?_⟩) hS0 ?_
      · intro w' hSw
        go_simp
      try simp only [Act.put, List.setIfInBounds_toArray, List.set_cons_zero, List.set_cons_succ]
      refine wpAnyH_take (i := 15) (oi := { dst := some 42, op := .load 3 (.tmp 41), type := _, pos := _, after := _, guard := _ }) (v := .int .i64 pr) rfl (by kernel_rfl) (by kernel_rfl) (by kernel_rfl) (fun _ _ _ h => h) (Or.inl ⟨by rfl, ?_⟩) hS0 ?_
      · intro w' hSw
        obtain ⟨s0, s1, s2, s3, s4, s5, s6⟩ := hSw
        go_simp
      try simp only [Act.put, List.setIfInBounds_toArray, List.set_cons_zero, List.set_cons_succ]
      refine wpAnyH_take (i := 19) (oi := { dst := some 46, op := .fieldAddr 25 (.tmp 1) 5, type := _, pos := _, after := _, guard := _ }) (v := .pointer (some ⟨w.heap.size, 5, none⟩)) rfl (by kernel_rfl) (by kernel_rfl) (by kernel_rfl) (fun _ _ _ h => h) (Or.inl ⟨by rfl, ?_⟩) hS0 ?_
      · intro w' hSw
        go_simp
      try simp only [Act.put, List.setIfInBounds_toArray, List.set_cons_zero, List.set_cons_succ]
      refine wpAnyH_take (i := 20) (oi := { dst := some 47, op := .load 22 (.tmp 46), type := _, pos := _, after := _, guard := _ }) (v := .int .u64 (tn : Int)) rfl (by kernel_rfl) (by kernel_rfl) (by kernel_rfl) (fun _ _ _ h => h) (Or.inl ⟨by rfl, ?_⟩) hS0 ?_
      · intro w' hSw
        obtain ⟨s0, s1, s2, s3, s4, s5, s6⟩ := hSw
        go_simp
      try simp only [Act.put, List.setIfInBounds_toArray, List.set_cons_zero, List.set_cons_succ]
      have HXa : Hid (Is w4.drew w.heap.size 25 #[.int .i64 1, .string user, .int .i64 id, .int .i64 st, .int .i64 pr, .int .u64 (tn : Int), .slice A us.length c]) := HX4.out.drewN 1
      have HBa := Lib.hid (Law.below_drewN HB4.out 1)
      refine wpAnyH_take (i := 3) (oi := { dst := some 30, op := .binOp .add 9 (.tmp 29) (.const (.string ⟨#[32]⟩)) 9, type := _, pos := _, after := _, guard := _ }) (v := .string ((nm ++ (⟨#[32]⟩ ++ quoteB user)) ++ ⟨#[32]⟩)) rfl (by kernel_rfl) (by kernel_rfl) (by kernel_rfl) (fun _ _ _ h => h) (Or.inl ⟨by rfl, ?_⟩) hS0 ?_
      · intro w' hSw
        go_simp
        omega
      try simp only [Act.put, List.setIfInBounds_toArray, List.set_cons_zero, List.set_cons_succ]
      refine wpAnyH_ready (rs := [6]) (by kernel_rfl) (by simp) ?_
      refine AllReadyH.cons (o := { dst := some 33, op := .call { callee := .value (.func 25), args := #[.tmp 32], argTypes := _ }, type := _, pos := _, after := _, guard := _ }) rfl (fun K hK => ?_) AllReadyH.nil
      go_simp
      refine Calls.mono (HID.out w4.drew) ?_
      rintro e vb ⟨rfl, bx⟩
      have HXb := Lib.hid (HXa.out.below bx HXa.out.lt)
      have HBb := Lib.hid (HBa.out.trans (bx.mono HBa.out.size))
      clear bx
      go_wp2_with fail
      refine hK.out _ _ ⟨HXb.out.cell' rfl, HXb.out.cell' rfl, HXb.out.cell' rfl, HXb.out.cell' rfl, HXb.out.cell' rfl, HXb.out.cell' rfl, HXb.out.cell' rfl⟩ (fun hSb => ?_)
      clear hK K
      try simp only [Act.put, List.setIfInBounds_toArray, List.set_cons_zero, List.set_cons_succ]
      refine wpAnyH_take (i := 7) (oi := { dst := some 34, op := .binOp .add 9 (.tmp 30) (.tmp 33) 9, type := _, pos := _, after := _, guard := _ }) (v := .string (((nm ++ (⟨#[32]⟩ ++ quoteB user)) ++ ⟨#[32]⟩) ++ intB id)) rfl (by kernel_rfl) (by kernel_rfl) (by kernel_rfl) (fun _ _ _ h => h) (Or.inl ⟨by rfl, ?_⟩) hSb ?_
      · intro w' hSw
        go_simp
        omega
      try simp only [Act.put, List.setIfInBounds_toArray, List.set_cons_zero, List.set_cons_succ]
      refine wpAnyH_take (i := 8) (oi := { dst := some 35, op := .binOp .add 9 (.tmp 34) (.const (.string ⟨#[32]⟩)) 9, type := _, pos := _, after := _, guard := _ }) (v := .string ((((nm ++ (⟨#[32]⟩ ++ quoteB user)) ++ ⟨#[32]⟩) ++ intB id) ++ ⟨#[32]⟩)) rfl (by kernel_rfl) (by kernel_rfl) (by kernel_rfl) (fun _ _ _ h => h) (Or.inl ⟨by rfl, ?_⟩) hSb ?_
      · intro w' hSw
        go_simp
        omega
      try simp only [Act.put, List.setIfInBounds_toArray, List.set_cons_zero, List.set_cons_succ]
      refine wpAnyH_ready (rs := [11]) (by kernel_rfl) (by simp) ?_
      refine AllReadyH.cons (o := { dst := some 38, op := .call { callee := .value (.func 25), args := #[.tmp 37], argTypes := _ }, type := _, pos := _, after := _, guard := _ }) rfl (fun K hK => ?_) AllReadyH.nil
      go_simp
      refine Calls.mono (HST.out vb) ?_
      rintro e vc ⟨rfl, bx⟩
      have HXc := Lib.hid (HXb.out.below bx HXb.out.lt)
      have HBc := Lib.hid (HBb.out.trans (bx.mono HBb.out.size))
      clear bx
      go_wp2_with fail
      refine hK.out _ _ ⟨HXc.out.cell' rfl, HXc.out.cell' rfl, HXc.out.cell' rfl, HXc.out.cell' rfl, HXc.out.cell' rfl, HXc.out.cell' rfl, HXc.out.cell' rfl⟩ (fun hSc => ?_)
      clear hK K
      try simp only [Act.put, List.setIfInBounds_toArray, List.set_cons_zero, List.set_cons_succ]
      refine wpAnyH_take (i := 12) (oi := { dst := some 39, op := .binOp .add 9 (.tmp 35) (.tmp 38) 9, type := _, pos := _, after := _, guard := _ }) (v := .string (((((nm ++ (⟨#[32]⟩ ++ quoteB user)) ++ ⟨#[32]⟩) ++ intB id) ++ ⟨#[32]⟩) ++ intB st)) rfl (by kernel_rfl) (by kernel_rfl) (by kernel_rfl) (fun _ _ _ h => h) (Or.inl ⟨by rfl, ?_⟩) hSc ?_
      · intro w' hSw
        go_simp
        omega
      try simp only [Act.put, List.setIfInBounds_toArray, List.set_cons_zero, List.set_cons_succ]
      refine wpAnyH_take (i := 13) (oi := { dst := some 40, op := .binOp .add 9 (.tmp 39) (.const (.string ⟨#[32]⟩)) 9, type := _, pos := _, after := _, guard := _ }) (v := .string ((((((nm ++ (⟨#[32]⟩ ++ quoteB user)) ++ ⟨#[32]⟩) ++ intB id) ++ ⟨#[32]⟩) ++ intB st) ++ ⟨#[32]⟩)) rfl (by kernel_rfl) (by kernel_rfl) (by kernel_rfl) (fun _ _ _ h => h) (Or.inl ⟨by rfl, ?_⟩) hSc ?_
      · intro w' hSw
        go_simp
        omega
      try simp only [Act.put, List.setIfInBounds_toArray, List.set_cons_zero, List.set_cons_succ]
      refine wpAnyH_ready (rs := [16]) (by kernel_rfl) (by simp) ?_
      refine AllReadyH.cons (o := { dst := some 43, op := .call { callee := .value (.func 25), args := #[.tmp 42], argTypes := _ }, type := _, pos := _, after := _, guard := _ }) rfl (fun K hK => ?_) AllReadyH.nil
      go_simp
      refine Calls.mono (HPR.out vc) ?_
      rintro e vd ⟨rfl, bx⟩
      have HXd := Lib.hid (HXc.out.below bx HXc.out.lt)
      have HBd := Lib.hid (HBc.out.trans (bx.mono HBc.out.size))
      clear bx
      go_wp2_with fail
      refine hK.out _ _ ⟨HXd.out.cell' rfl, HXd.out.cell' rfl, HXd.out.cell' rfl, HXd.out.cell' rfl, HXd.out.cell' rfl, HXd.out.cell' rfl, HXd.out.cell' rfl⟩ (fun hSd => ?_)
      clear hK K
      try simp only [Act.put, List.setIfInBounds_toArray, List.set_cons_zero, List.set_cons_succ]
      refine wpAnyH_take (i := 17) (oi := { dst := some 44, op := .binOp .add 9 (.tmp 40) (.tmp 43) 9, type := _, pos := _, after := _, guard := _ }) (v := .string (((((((nm ++ (⟨#[32]⟩ ++ quoteB user)) ++ ⟨#[32]⟩) ++ intB id) ++ ⟨#[32]⟩) ++ intB st) ++ ⟨#[32]⟩) ++ intB pr)) rfl (by kernel_rfl) (by kernel_rfl) (by kernel_rfl) (fun _ _ _ h => h) (Or.inl ⟨by rfl, ?_⟩) hSd ?_
      · intro w' hSw
        go_simp
        omega
      try simp only [Act.put, List.setIfInBounds_toArray, List.set_cons_zero, List.set_cons_succ]
      refine wpAnyH_take (i := 18) (oi := { dst := some 45, op := .binOp .add 9 (.tmp 44) (.const (.string ⟨#[32]⟩)) 9, type := _, pos := _, after := _, guard := _ }) (v := .string ((((((((nm ++ (⟨#[32]⟩ ++ quoteB user)) ++ ⟨#[32]⟩) ++ intB id) ++ ⟨#[32]⟩) ++ intB st) ++ ⟨#[32]⟩) ++ intB pr) ++ ⟨#[32]⟩)) rfl (by kernel_rfl) (by kernel_rfl) (by kernel_rfl) (fun _ _ _ h => h) (Or.inl ⟨by rfl, ?_⟩) hSd ?_
      · intro w' hSw
        go_simp
        omega
      try simp only [Act.put, List.setIfInBounds_toArray, List.set_cons_zero, List.set_cons_succ]
      refine wpAnyH_ready (rs := [21]) (by kernel_rfl) (by simp) ?_
      refine AllReadyH.cons (o := { dst := some 48, op := .call { callee := .value (.func 26), args := #[.tmp 47], argTypes := _ }, type := _, pos := _, after := _, guard := _ }) rfl (fun K hK => ?_) AllReadyH.nil
      go_simp
      refine Calls.mono (HTL.out vd) ?_
      rintro e ve ⟨rfl, bx⟩
      have HXe := Lib.hid (HXd.out.below bx HXd.out.lt)
      have HBe := Lib.hid (HBd.out.trans (bx.mono HBd.out.size))
      clear bx
      go_wp2_with fail
      refine hK.out _ _ ⟨HXe.out.cell' rfl, HXe.out.cell' rfl, HXe.out.cell' rfl, HXe.out.cell' rfl, HXe.out.cell' rfl, HXe.out.cell' rfl, HXe.out.cell' rfl⟩ (fun hSe => ?_)
      clear hK K
      try simp only [Act.put, List.setIfInBounds_toArray, List.set_cons_zero, List.set_cons_succ]
      refine wpAnyH_take (i := 22) (oi := { dst := some 49, op := .binOp .add 9 (.tmp 45) (.tmp 48) 9, type := _, pos := _, after := _, guard := _ }) (v := .string (((((((((nm ++ (⟨#[32]⟩ ++ quoteB user)) ++ ⟨#[32]⟩) ++ intB id) ++ ⟨#[32]⟩) ++ intB st) ++ ⟨#[32]⟩) ++ intB pr) ++ ⟨#[32]⟩) ++ decB tn)) rfl (by kernel_rfl) (by kernel_rfl) (by kernel_rfl) (fun _ _ _ h => h) (Or.inl ⟨by rfl, ?_⟩) hSe ?_
      · intro w' hSw
        go_simp
        omega
      try simp only [Act.put, List.setIfInBounds_toArray, List.set_cons_zero, List.set_cons_succ]
      refine wpAnyH_take (i := 23) (oi := { dst := some 2, op := .assign (.tmp 49), type := _, pos := _, after := _, guard := _ }) (v := .string (((((((((nm ++ (⟨#[32]⟩ ++ quoteB user)) ++ ⟨#[32]⟩) ++ intB id) ++ ⟨#[32]⟩) ++ intB st) ++ ⟨#[32]⟩) ++ intB pr) ++ ⟨#[32]⟩) ++ decB tn)) rfl (by kernel_rfl) (by kernel_rfl) (by kernel_rfl) (fun _ _ _ h => h) (Or.inl ⟨by rfl, ?_⟩) hSe ?_
      · intro w' hSw
        go_simp
      try simp only [Act.put, List.setIfInBounds_toArray, List.set_cons_zero, List.set_cons_succ]
      refine wpAnyH_done (by kernel_rfl) ?_ _
      go_wp2_with fail
      go_ret
      exact ⟨rfl, HBe.out⟩
    · obtain ⟨nm, hnm⟩ : ∃ nm, kindB 2 = nm := ⟨_, rfl⟩
      have hns := kindB_size 2
      rw [hnm] at hns
      have hna := name_at 2 (by decide)
      rw [show ((2 : Nat) : Int) = 2 from rfl, hnm] at hna
      have HLN : Hid (lineB ⟨2, user, id, st, pr, (tn : Int), A, c, us⟩ = ((((nm ++ (⟨#[32]⟩ ++ quoteB user)) ++ ⟨#[32]⟩) ++ intB id) ++ ⟨#[32]⟩) ++ decB tn) := by
        show _ = _
        have e : lineB ⟨2, user, id, st, pr, (tn : Int), A, c, us⟩ = joinB (nm :: [quoteB user, intB id, decB tn]) := by rw [← hnm]; rfl
        rw [e]
        simp only [join_two, join_one] <;> (apply ByteArray.ext; simp only [ByteArray.data_append, Array.append_assoc])
      rw [HLN.out]
      clear hnm HLN
      go_enter Tryd.func11, Tryd.ntmps11
      go_wp2_with fail
      generalize w.alloc (.cells #[.int .i64 2, .string user, .int .i64 id, .int .i64 st, .int .i64 pr, .int .u64 (tn : Int), .slice A us.length c] 25) = w1 at *
      have x0 : w1.cell? ⟨w.heap.size, 0, none⟩ = some (.int .i64 2) := HX.out.cell' rfl
      have x1 : w1.cell? ⟨w.heap.size, 1, none⟩ = some (.string user) := HX.out.cell' rfl
      have x2 : w1.cell? ⟨w.heap.size, 2, none⟩ = some (.int .i64 id) := HX.out.cell' rfl
      have x3 : w1.cell? ⟨w.heap.size, 3, none⟩ = some (.int .i64 st) := HX.out.cell' rfl
      have x4 : w1.cell? ⟨w.heap.size, 4, none⟩ = some (.int .i64 pr) := HX.out.cell' rfl
      have x5 : w1.cell? ⟨w.heap.size, 5, none⟩ = some (.int .u64 (tn : Int)) := HX.out.cell' rfl
      have x6 : w1.cell? ⟨w.heap.size, 6, none⟩ = some (.slice A us.length c) := HX.out.cell' rfl
      have lx := HX.out.lt
      go_wp2_with fail
      refine wp_region_held_drew (S := fun w' => w'.cell? ⟨w.heap.size, 0, none⟩ = some (.int .i64 2)) (by kernel_rfl) x0 (fun hS0 => ?_)
      refine wpAnyH_take (i := 1) (oi := { dst := some 15, op := .fieldAddr 25 (.tmp 1) 0, type := _, pos := _, after := _, guard := _ }) (v := .pointer (some ⟨w.heap.size, 0, none⟩)) rfl (by kernel_rfl) (by kernel_rfl) (by kernel_rfl) (fun _ _ _ h => h) (Or.inl ⟨by rfl, ?_⟩) hS0 ?_
      · intro w' hSw
        go_simp
      try simp only [Act.put, List.setIfInBounds_toArray, List.set_cons_zero, List.set_cons_succ]
      refine wpAnyH_take (i := 2) (oi := { dst := some 16, op := .load 3 (.tmp 15), type := _, pos := _, after := _, guard := _ }) (v := .int .i64 2) rfl (by kernel_rfl) (by kernel_rfl) (by kernel_rfl) (fun _ _ _ h => h) (Or.inl ⟨by rfl, ?_⟩) hS0 ?_
      · intro w' hSw
        go_simp
      try simp only [Act.put, List.setIfInBounds_toArray, List.set_cons_zero, List.set_cons_succ]
      have HX2 : Hid (Is w1.drew w.heap.size 25 #[.int .i64 2, .string user, .int .i64 id, .int .i64 st, .int .i64 pr, .int .u64 (tn : Int), .slice A us.length c]) := HX.out.drewN 1
      have HB2 : Hid (Below w.heap.size w w1.drew) := Lib.hid (Law.below_drewN HB.out 1)
      have HT2 := Lib.hid (HTb.out.below (Law.below_drewN (Below.refl w1.heap.size w1) 1))
      have HU2 := Lib.hid ((HU.out.below (Law.below_drewN (Below.refl w1.heap.size w1) 1)).more (Nat.le_refl _))
      refine wpAnyH_ready (rs := [0]) (by kernel_rfl) (by simp) ?_
      refine AllReadyH.cons (o := { dst := some 14, op := .call { callee := .value (.func 9), args := #[], argTypes := _ }, type := _, pos := _, after := _, guard := _ }) rfl (fun K hK => ?_) AllReadyH.nil
      go_simp
      refine Calls.mono (rNames w1.drew) ?_
      rintro e w3 ⟨D, rfl, hD, b3⟩
      have HX3 := Lib.hid (HX2.out.below b3 HX2.out.lt)
      have HB3 := Lib.hid (HB2.out.trans (b3.mono HB2.out.size))
      have HT3 := Lib.hid (HT2.out.below b3)
      have HU3 := Lib.hid ((HU2.out.below b3).more b3.size)
      have cD := hD 2 nm hna
      have lD := World.block_lt_of_cell? _ _ cD
      simp only at lD
      clear b3 hD hna
      go_wp2_with fail
      refine hK.out _ _ (HX3.out.cell' rfl) (fun hS1 => ?_)
      clear hK K
      try simp only [Act.put, List.setIfInBounds_toArray, List.set_cons_zero, List.set_cons_succ]
      refine wpAnyH_take (i := 3) (oi := { dst := some 17, op := .indexAddr 23 (.tmp 14) (.tmp 16), type := _, pos := _, after := _, guard := _ }) (v := .pointer (some ⟨D, 2, none⟩)) rfl (by kernel_rfl) (by kernel_rfl) (by kernel_rfl) (fun _ _ _ h => h) (Or.inl ⟨by rfl, ?_⟩) hS1 ?_
      · intro w' hSw
        go_simp
      try simp only [Act.put, List.setIfInBounds_toArray, List.set_cons_zero, List.set_cons_succ]
      refine wpAnyH_ready (rs := [4]) (by kernel_rfl) (by simp) ?_
      refine AllReadyH.cons (o := { dst := some 18, op := .load 9 (.tmp 17), type := _, pos := _, after := _, guard := _ }) rfl (fun K hK => ?_) AllReadyH.nil
      go_simp
      refine hK.out _ _ (HX3.out.cell' rfl) (fun hS2 => ?_)
      clear hK K
      try simp only [Act.put, List.setIfInBounds_toArray, List.set_cons_zero, List.set_cons_succ]
      refine wpAnyH_take (i := 5) (oi := { dst := some 3, op := .assign (.tmp 18), type := _, pos := _, after := _, guard := _ }) (v := .string nm) rfl (by kernel_rfl) (by kernel_rfl) (by kernel_rfl) (fun _ _ _ h => h) (Or.inl ⟨by rfl, ?_⟩) hS2 ?_
      · intro w' hSw
        go_simp
      try simp only [Act.put, List.setIfInBounds_toArray, List.set_cons_zero, List.set_cons_succ]
      refine wpAnyH_done (by kernel_rfl) ?_ _
      clear x0 x1 x2 x3 x4 x5 x6 lx cD
      have x0 : w3.cell? ⟨w.heap.size, 0, none⟩ = some (.int .i64 2) := HX3.out.cell' rfl
      have x1 : w3.cell? ⟨w.heap.size, 1, none⟩ = some (.string user) := HX3.out.cell' rfl
      have x2 : w3.cell? ⟨w.heap.size, 2, none⟩ = some (.int .i64 id) := HX3.out.cell' rfl
      have x3 : w3.cell? ⟨w.heap.size, 3, none⟩ = some (.int .i64 st) := HX3.out.cell' rfl
      have x4 : w3.cell? ⟨w.heap.size, 4, none⟩ = some (.int .i64 pr) := HX3.out.cell' rfl
      have x5 : w3.cell? ⟨w.heap.size, 5, none⟩ = some (.int .u64 (tn : Int)) := HX3.out.cell' rfl
      have x6 : w3.cell? ⟨w.heap.size, 6, none⟩ = some (.slice A us.length c) := HX3.out.cell' rfl
      have lx := HX3.out.lt
      go_wp2_with fail
      refine (HQ.out w3 HT3.out).mono ?_
      rintro e w4 ⟨rfl, b4⟩
      have HX4 := Lib.hid (HX3.out.below b4 HX3.out.lt)
      have HB4 := Lib.hid (HB3.out.trans (b4.mono HB3.out.size))
      have HT4 := Lib.hid (HT3.out.below b4)
      have HU4 := Lib.hid ((HU3.out.below b4).more b4.size)
      clear b4 x0 x1 x2 x3 x4 x5 x6 lx
      have x0 : w4.cell? ⟨w.heap.size, 0, none⟩ = some (.int .i64 2) := HX4.out.cell' rfl
      have x1 : w4.cell? ⟨w.heap.size, 1, none⟩ = some (.string user) := HX4.out.cell' rfl
      have x2 : w4.cell? ⟨w.heap.size, 2, none⟩ = some (.int .i64 id) := HX4.out.cell' rfl
      have x3 : w4.cell? ⟨w.heap.size, 3, none⟩ = some (.int .i64 st) := HX4.out.cell' rfl
      have x4 : w4.cell? ⟨w.heap.size, 4, none⟩ = some (.int .i64 pr) := HX4.out.cell' rfl
      have x5 : w4.cell? ⟨w.heap.size, 5, none⟩ = some (.int .u64 (tn : Int)) := HX4.out.cell' rfl
      have x6 : w4.cell? ⟨w.heap.size, 6, none⟩ = some (.slice A us.length c) := HX4.out.cell' rfl
      have lx := HX4.out.lt
      go_wp2_with fail
      refine wp_region_held_drew (S := fun w' => w'.cell? ⟨w.heap.size, 0, none⟩ = some (.int .i64 2) ∧ w'.cell? ⟨w.heap.size, 1, none⟩ = some (.string user) ∧ w'.cell? ⟨w.heap.size, 2, none⟩ = some (.int .i64 id) ∧ w'.cell? ⟨w.heap.size, 3, none⟩ = some (.int .i64 st) ∧ w'.cell? ⟨w.heap.size, 4, none⟩ = some (.int .i64 pr) ∧ w'.cell? ⟨w.heap.size, 5, none⟩ = some (.int .u64 (tn : Int)) ∧ w'.cell? ⟨w.heap.size, 6, none⟩ = some (.slice A us.length c)) (by kernel_rfl) ⟨x0, x1, x2, x3, x4, x5, x6⟩ (fun hS0 => ?_)
      refine wpAnyH_take (i := 0) (oi := { dst := some 52, op := .move (.tmp 3), type := _, pos := _, after := _, guard := _ }) (v := .string nm) rfl (by kernel_rfl) (by kernel_rfl) (by kernel_rfl) (fun _ _ _ h => h) (Or.inl ⟨by rfl, ?_⟩) hS0 ?_
      · intro w' hSw
        go_simp
      try simp only [Act.put, List.setIfInBounds_toArray, List.set_cons_zero, List.set_cons_succ]
      refine wpAnyH_take (i := 1) (oi := { dst := some 53, op := .move (.tmp 4), type := _, pos := _, after := _, guard := _ }) (v := .string (⟨#[32]⟩ ++ quoteB user)) rfl (by kernel_rfl) (by kernel_rfl) (by kernel_rfl) (fun _ _ _ h => h) (Or.inl ⟨by rfl, ?_⟩) hS0 ?_
      · intro w' hSw
        go_simp
      try simp only [Act.put, List.setIfInBounds_toArray, List.set_cons_zero, List.set_cons_succ]
      refine wpAnyH_take (i := 2) (oi := { dst := some 54, op := .binOp .add 9 (.tmp 52) (.tmp 53) 9, type := _, pos := _, after := _, guard := _ }) (v := .string (nm ++ (⟨#[32]⟩ ++ quoteB user))) rfl (by kernel_rfl) (by kernel_rfl) (by kernel_rfl) (fun _ _ _ h => h) (Or.inl ⟨by rfl, ?_⟩) hS0 ?_
      · intro w' hSw
        go_simp
        omega
      try simp only [Act.put, List.setIfInBounds_toArray, List.set_cons_zero, List.set_cons_succ]
      refine wpAnyH_take (i := 4) (oi := { dst := some 56, op := .fieldAddr 25 (.tmp 1) 2, type := _, pos := _, after := _, guard := _ }) (v := .pointer (some ⟨w.heap.size, 2, none⟩)) rfl (by kernel_rfl) (by kernel_rfl) (by kernel_rfl) (fun _ _ _ h => h) (Or.inl ⟨by rfl, ?_⟩) hS0 ?_
      · intro w' hSw
        go_simp
      try simp only [Act.put, List.setIfInBounds_toArray, List.set_cons_zero, List.set_cons_succ]
      refine wpAnyH_take (i := 5) (oi := { dst := some 57, op := .load 3 (.tmp 56), type := _, pos := _, after := _, guard := _ }) (v := .int .i64 id) rfl (by kernel_rfl) (by kernel_rfl) (by kernel_rfl) (fun _ _ _ h => h) (Or.inl ⟨by rfl, ?_⟩) hS0 ?_
      · intro w' hSw
        obtain ⟨s0, s1, s2, s3, s4, s5, s6⟩ := hSw
        go_simp
      try simp only [Act.put, List.setIfInBounds_toArray, List.set_cons_zero, List.set_cons_succ]
      refine wpAnyH_take (i := 9) (oi := { dst := some 61, op := .fieldAddr 25 (.tmp 1) 5, type := _, pos := _, after := _, guard := _ }) (v := .pointer (some ⟨w.heap.size, 5, none⟩)) rfl (by kernel_rfl) (by kernel_rfl) (by kernel_rfl) (fun _ _ _ h => h) (Or.inl ⟨by rfl, ?_⟩) hS0 ?_
      · intro w' hSw
        go_simp
      try simp only [Act.put, List.setIfInBounds_toArray, List.set_cons_zero, List.set_cons_succ]
      refine wpAnyH_take (i := 10) (oi := { dst := some 62, op := .load 22 (.tmp 61), type := _, pos := _, after := _, guard := _ }) (v := .int .u64 (tn : Int)) rfl (by kernel_rfl) (by kernel_rfl) (by kernel_rfl) (fun _ _ _ h => h) (Or.inl ⟨by rfl, ?_⟩) hS0 ?_
      · intro w' hSw
        obtain ⟨s0, s1, s2, s3, s4, s5, s6⟩ := hSw
        go_simp
      try simp only [Act.put, List.setIfInBounds_toArray, List.set_cons_zero, List.set_cons_succ]
      have HXa : Hid (Is w4.drew w.heap.size 25 #[.int .i64 2, .string user, .int .i64 id, .int .i64 st, .int .i64 pr, .int .u64 (tn : Int), .slice A us.length c]) := HX4.out.drewN 1
      have HBa := Lib.hid (Law.below_drewN HB4.out 1)
      refine wpAnyH_take (i := 3) (oi := { dst := some 55, op := .binOp .add 9 (.tmp 54) (.const (.string ⟨#[32]⟩)) 9, type := _, pos := _, after := _, guard := _ }) (v := .string ((nm ++ (⟨#[32]⟩ ++ quoteB user)) ++ ⟨#[32]⟩)) rfl (by kernel_rfl) (by kernel_rfl) (by kernel_rfl) (fun _ _ _ h => h) (Or.inl ⟨by rfl, ?_⟩) hS0 ?_
      · intro w' hSw
        go_simp
        omega
      try simp only [Act.put, List.setIfInBounds_toArray, List.set_cons_zero, List.set_cons_succ]
      refine wpAnyH_ready (rs := [6]) (by kernel_rfl) (by simp) ?_
      refine AllReadyH.cons (o := { dst := some 58, op := .call { callee := .value (.func 25), args := #[.tmp 57], argTypes := _ }, type := _, pos := _, after := _, guard := _ }) rfl (fun K hK => ?_) AllReadyH.nil
      go_simp
      refine Calls.mono (HID.out w4.drew) ?_
      rintro e vb ⟨rfl, bx⟩
      have HXb := Lib.hid (HXa.out.below bx HXa.out.lt)
      have HBb := Lib.hid (HBa.out.trans (bx.mono HBa.out.size))
      clear bx
      go_wp2_with fail
      refine hK.out _ _ ⟨HXb.out.cell' rfl, HXb.out.cell' rfl, HXb.out.cell' rfl, HXb.out.cell' rfl, HXb.out.cell' rfl, HXb.out.cell' rfl, HXb.out.cell' rfl⟩ (fun hSb => ?_)
      clear hK K
      try simp only [Act.put, List.setIfInBounds_toArray, List.set_cons_zero, List.set_cons_succ]
      refine wpAnyH_take (i := 7) (oi := { dst := some 59, op := .binOp .add 9 (.tmp 55) (.tmp 58) 9, type := _, pos := _, after := _, guard := _ }) (v := .string (((nm ++ (⟨#[32]⟩ ++ quoteB user)) ++ ⟨#[32]⟩) ++ intB id)) rfl (by kernel_rfl) (by kernel_rfl) (by kernel_rfl) (fun _ _ _ h => h) (Or.inl ⟨by rfl, ?_⟩) hSb ?_
      · intro w' hSw
        go_simp
        omega
      try simp only [Act.put, List.setIfInBounds_toArray, List.set_cons_zero, List.set_cons_succ]
      refine wpAnyH_take (i := 8) (oi := { dst := some 60, op := .binOp .add 9 (.tmp 59) (.const (.string ⟨#[32]⟩)) 9, type := _, pos := _, after := _, guard := _ }) (v := .string ((((nm ++ (⟨#[32]⟩ ++ quoteB user)) ++ ⟨#[32]⟩) ++ intB id) ++ ⟨#[32]⟩)) rfl (by kernel_rfl) (by kernel_rfl) (by kernel_rfl) (fun _ _ _ h => h) (Or.inl ⟨by rfl, ?_⟩) hSb ?_
      · intro w' hSw
        go_simp
        omega
      try simp only [Act.put, List.setIfInBounds_toArray, List.set_cons_zero, List.set_cons_succ]
      refine wpAnyH_ready (rs := [11]) (by kernel_rfl) (by simp) ?_
      refine AllReadyH.cons (o := { dst := some 63, op := .call { callee := .value (.func 26), args := #[.tmp 62], argTypes := _ }, type := _, pos := _, after := _, guard := _ }) rfl (fun K hK => ?_) AllReadyH.nil
      go_simp
      refine Calls.mono (HTL.out vb) ?_
      rintro e vc ⟨rfl, bx⟩
      have HXc := Lib.hid (HXb.out.below bx HXb.out.lt)
      have HBc := Lib.hid (HBb.out.trans (bx.mono HBb.out.size))
      clear bx
      go_wp2_with fail
      refine hK.out _ _ ⟨HXc.out.cell' rfl, HXc.out.cell' rfl, HXc.out.cell' rfl, HXc.out.cell' rfl, HXc.out.cell' rfl, HXc.out.cell' rfl, HXc.out.cell' rfl⟩ (fun hSc => ?_)
      clear hK K
      try simp only [Act.put, List.setIfInBounds_toArray, List.set_cons_zero, List.set_cons_succ]
      refine wpAnyH_take (i := 12) (oi := { dst := some 64, op := .binOp .add 9 (.tmp 60) (.tmp 63) 9, type := _, pos := _, after := _, guard := _ }) (v := .string (((((nm ++ (⟨#[32]⟩ ++ quoteB user)) ++ ⟨#[32]⟩) ++ intB id) ++ ⟨#[32]⟩) ++ decB tn)) rfl (by kernel_rfl) (by kernel_rfl) (by kernel_rfl) (fun _ _ _ h => h) (Or.inl ⟨by rfl, ?_⟩) hSc ?_
      · intro w' hSw
        go_simp
        omega
      try simp only [Act.put, List.setIfInBounds_toArray, List.set_cons_zero, List.set_cons_succ]
      refine wpAnyH_take (i := 13) (oi := { dst := some 2, op := .assign (.tmp 64), type := _, pos := _, after := _, guard := _ }) (v := .string (((((nm ++ (⟨#[32]⟩ ++ quoteB user)) ++ ⟨#[32]⟩) ++ intB id) ++ ⟨#[32]⟩) ++ decB tn)) rfl (by kernel_rfl) (by kernel_rfl) (by kernel_rfl) (fun _ _ _ h => h) (Or.inl ⟨by rfl, ?_⟩) hSc ?_
      · intro w' hSw
        go_simp
      try simp only [Act.put, List.setIfInBounds_toArray, List.set_cons_zero, List.set_cons_succ]
      refine wpAnyH_done (by kernel_rfl) ?_ _
      go_wp2_with fail
      go_ret
      exact ⟨rfl, HBc.out⟩
    · obtain ⟨nm, hnm⟩ : ∃ nm, kindB 3 = nm := ⟨_, rfl⟩
      have hns := kindB_size 3
      rw [hnm] at hns
      have hna := name_at 3 (by decide)
      rw [show ((3 : Nat) : Int) = 3 from rfl, hnm] at hna
      have HLN : Hid (lineB ⟨3, user, id, st, pr, (tn : Int), A, c, us⟩ = ((nm ++ (⟨#[32]⟩ ++ quoteB user)) ++ ⟨#[32]⟩) ++ intB id) := by
        show _ = _
        have e : lineB ⟨3, user, id, st, pr, (tn : Int), A, c, us⟩ = joinB (nm :: [quoteB user, intB id]) := by rw [← hnm]; rfl
        rw [e]
        simp only [join_two, join_one] <;> (apply ByteArray.ext; simp only [ByteArray.data_append, Array.append_assoc])
      rw [HLN.out]
      clear hnm HLN
      go_enter Tryd.func11, Tryd.ntmps11
      go_wp2_with fail
      generalize w.alloc (.cells #[.int .i64 3, .string user, .int .i64 id, .int .i64 st, .int .i64 pr, .int .u64 (tn : Int), .slice A us.length c] 25) = w1 at *
      have x0 : w1.cell? ⟨w.heap.size, 0, none⟩ = some (.int .i64 3) := HX.out.cell' rfl
      have x1 : w1.cell? ⟨w.heap.size, 1, none⟩ = some (.string user) := HX.out.cell' rfl
      have x2 : w1.cell? ⟨w.heap.size, 2, none⟩ = some (.int .i64 id) := HX.out.cell' rfl
      have x3 : w1.cell? ⟨w.heap.size, 3, none⟩ = some (.int .i64 st) := HX.out.cell' rfl
      have x4 : w1.cell? ⟨w.heap.size, 4, none⟩ = some (.int .i64 pr) := HX.out.cell' rfl
      have x5 : w1.cell? ⟨w.heap.size, 5, none⟩ = some (.int .u64 (tn : Int)) := HX.out.cell' rfl
      have x6 : w1.cell? ⟨w.heap.size, 6, none⟩ = some (.slice A us.length c) := HX.out.cell' rfl
      have lx := HX.out.lt
      go_wp2_with fail
      refine wp_region_held_drew (S := fun w' => w'.cell? ⟨w.heap.size, 0, none⟩ = some (.int .i64 3)) (by kernel_rfl) x0 (fun hS0 => ?_)
      refine wpAnyH_take (i := 1) (oi := { dst := some 15, op := .fieldAddr 25 (.tmp 1) 0, type := _, pos := _, after := _, guard := _ }) (v := .pointer (some ⟨w.heap.size, 0, none⟩)) rfl (by kernel_rfl) (by kernel_rfl) (by kernel_rfl) (fun _ _ _ h => h) (Or.inl ⟨by rfl, ?_⟩) hS0 ?_
      · intro w' hSw
        go_simp
      try simp only [Act.put, List.setIfInBounds_toArray, List.set_cons_zero, List.set_cons_succ]
      refine wpAnyH_take (i := 2) (oi := { dst := some 16, op := .load 3 (.tmp 15), type := _, pos := _, after := _, guard := _ }) (v := .int .i64 3) rfl (by kernel_rfl) (by kernel_rfl) (by kernel_rfl) (fun _ _ _ h => h) (Or.inl ⟨by rfl, ?_⟩) hS0 ?_
      · intro w' hSw
        go_simp
      try simp only [Act.put, List.setIfInBounds_toArray, List.set_cons_zero, List.set_cons_succ]
      have HX2 : Hid (Is w1.drew w.heap.size 25 #[.int .i64 3, .string user, .int .i64 id, .int .i64 st, .int .i64 pr, .int .u64 (tn : Int), .slice A us.length c]) := HX.out.drewN 1
      have HB2 : Hid (Below w.heap.size w w1.drew) := Lib.hid (Law.below_drewN HB.out 1)
      have HT2 := Lib.hid (HTb.out.below (Law.below_drewN (Below.refl w1.heap.size w1) 1))
      have HU2 := Lib.hid ((HU.out.below (Law.below_drewN (Below.refl w1.heap.size w1) 1)).more (Nat.le_refl _))
      refine wpAnyH_ready (rs := [0]) (by kernel_rfl) (by simp) ?_
      refine AllReadyH.cons (o := { dst := some 14, op := .call { callee := .value (.func 9), args := #[], argTypes := _ }, type := _, pos := _, after := _, guard := _ }) rfl (fun K hK => ?_) AllReadyH.nil
      go_simp
      refine Calls.mono (rNames w1.drew) ?_
      rintro e w3 ⟨D, rfl, hD, b3⟩
      have HX3 := Lib.hid (HX2.out.below b3 HX2.out.lt)
      have HB3 := Lib.hid (HB2.out.trans (b3.mono HB2.out.size))
      have HT3 := Lib.hid (HT2.out.below b3)
      have HU3 := Lib.hid ((HU2.out.below b3).more b3.size)
      have cD := hD 3 nm hna
      have lD := World.block_lt_of_cell? _ _ cD
      simp only at lD
      clear b3 hD hna
      go_wp2_with fail
      refine hK.out _ _ (HX3.out.cell' rfl) (fun hS1 => ?_)
      clear hK K
      try simp only [Act.put, List.setIfInBounds_toArray, List.set_cons_zero, List.set_cons_succ]
      refine wpAnyH_take (i := 3) (oi := { dst := some 17, op := .indexAddr 23 (.tmp 14) (.tmp 16), type := _, pos := _, after := _, guard := _ }) (v := .pointer (some ⟨D, 3, none⟩)) rfl (by kernel_rfl) (by kernel_rfl) (by kernel_rfl) (fun _ _ _ h => h) (Or.inl ⟨by rfl, ?_⟩) hS1 ?_
      · intro w' hSw
        go_simp
      try simp only [Act.put, List.setIfInBounds_toArray, List.set_cons_zero, List.set_cons_succ]
      refine wpAnyH_ready (rs := [4]) (by kernel_rfl) (by simp) ?_
      refine AllReadyH.cons (o := { dst := some 18, op := .load 9 (.tmp 17), type := _, pos := _, after := _, guard := _ }) rfl (fun K hK => ?_) AllReadyH.nil
      go_simp
      refine hK.out _ _ (HX3.out.cell' rfl) (fun hS2 => ?_)
      clear hK K
      try simp only [Act.put, List.setIfInBounds_toArray, List.set_cons_zero, List.set_cons_succ]
      refine wpAnyH_take (i := 5) (oi := { dst := some 3, op := .assign (.tmp 18), type := _, pos := _, after := _, guard := _ }) (v := .string nm) rfl (by kernel_rfl) (by kernel_rfl) (by kernel_rfl) (fun _ _ _ h => h) (Or.inl ⟨by rfl, ?_⟩) hS2 ?_
      · intro w' hSw
        go_simp
      try simp only [Act.put, List.setIfInBounds_toArray, List.set_cons_zero, List.set_cons_succ]
      refine wpAnyH_done (by kernel_rfl) ?_ _
      clear x0 x1 x2 x3 x4 x5 x6 lx cD
      have x0 : w3.cell? ⟨w.heap.size, 0, none⟩ = some (.int .i64 3) := HX3.out.cell' rfl
      have x1 : w3.cell? ⟨w.heap.size, 1, none⟩ = some (.string user) := HX3.out.cell' rfl
      have x2 : w3.cell? ⟨w.heap.size, 2, none⟩ = some (.int .i64 id) := HX3.out.cell' rfl
      have x3 : w3.cell? ⟨w.heap.size, 3, none⟩ = some (.int .i64 st) := HX3.out.cell' rfl
      have x4 : w3.cell? ⟨w.heap.size, 4, none⟩ = some (.int .i64 pr) := HX3.out.cell' rfl
      have x5 : w3.cell? ⟨w.heap.size, 5, none⟩ = some (.int .u64 (tn : Int)) := HX3.out.cell' rfl
      have x6 : w3.cell? ⟨w.heap.size, 6, none⟩ = some (.slice A us.length c) := HX3.out.cell' rfl
      have lx := HX3.out.lt
      go_wp2_with fail
      refine (HQ.out w3 HT3.out).mono ?_
      rintro e w4 ⟨rfl, b4⟩
      have HX4 := Lib.hid (HX3.out.below b4 HX3.out.lt)
      have HB4 := Lib.hid (HB3.out.trans (b4.mono HB3.out.size))
      have HT4 := Lib.hid (HT3.out.below b4)
      have HU4 := Lib.hid ((HU3.out.below b4).more b4.size)
      clear b4 x0 x1 x2 x3 x4 x5 x6 lx
      have x0 : w4.cell? ⟨w.heap.size, 0, none⟩ = some (.int .i64 3) := HX4.out.cell' rfl
      have x1 : w4.cell? ⟨w.heap.size, 1, none⟩ = some (.string user) := HX4.out.cell' rfl
      have x2 : w4.cell? ⟨w.heap.size, 2, none⟩ = some (.int .i64 id) := HX4.out.cell' rfl
      have x3 : w4.cell? ⟨w.heap.size, 3, none⟩ = some (.int .i64 st) := HX4.out.cell' rfl
      have x4 : w4.cell? ⟨w.heap.size, 4, none⟩ = some (.int .i64 pr) := HX4.out.cell' rfl
      have x5 : w4.cell? ⟨w.heap.size, 5, none⟩ = some (.int .u64 (tn : Int)) := HX4.out.cell' rfl
      have x6 : w4.cell? ⟨w.heap.size, 6, none⟩ = some (.slice A us.length c) := HX4.out.cell' rfl
      have lx := HX4.out.lt
      go_wp2_with fail
      refine (HID.out w4).mono ?_
      rintro e w5 ⟨rfl, b5⟩
      have HB5 := Lib.hid (HB4.out.trans (b5.mono HB4.out.size))
      clear b5
      go_wp2_with fail
      go_ret
      exact ⟨rfl, HB5.out⟩
    · obtain ⟨nm, hnm⟩ : ∃ nm, kindB 4 = nm := ⟨_, rfl⟩
      have hns := kindB_size 4
      rw [hnm] at hns
      have hna := name_at 4 (by decide)
      rw [show ((4 : Nat) : Int) = 4 from rfl, hnm] at hna
      have HLN : Hid (lineB ⟨4, user, id, st, pr, (tn : Int), A, c, us⟩ = nm ++ (⟨#[32]⟩ ++ quoteB user)) := by
        show _ = _
        have e : lineB ⟨4, user, id, st, pr, (tn : Int), A, c, us⟩ = joinB (nm :: [quoteB user]) := by rw [← hnm]; rfl
        rw [e]
        simp only [join_two, join_one] <;> (apply ByteArray.ext; simp only [ByteArray.data_append, Array.append_assoc])
      rw [HLN.out]
      clear hnm HLN
      go_enter Tryd.func11, Tryd.ntmps11
      go_wp2_with fail
      generalize w.alloc (.cells #[.int .i64 4, .string user, .int .i64 id, .int .i64 st, .int .i64 pr, .int .u64 (tn : Int), .slice A us.length c] 25) = w1 at *
      have x0 : w1.cell? ⟨w.heap.size, 0, none⟩ = some (.int .i64 4) := HX.out.cell' rfl
      have x1 : w1.cell? ⟨w.heap.size, 1, none⟩ = some (.string user) := HX.out.cell' rfl
      have x2 : w1.cell? ⟨w.heap.size, 2, none⟩ = some (.int .i64 id) := HX.out.cell' rfl
      have x3 : w1.cell? ⟨w.heap.size, 3, none⟩ = some (.int .i64 st) := HX.out.cell' rfl
      have x4 : w1.cell? ⟨w.heap.size, 4, none⟩ = some (.int .i64 pr) := HX.out.cell' rfl
      have x5 : w1.cell? ⟨w.heap.size, 5, none⟩ = some (.int .u64 (tn : Int)) := HX.out.cell' rfl
      have x6 : w1.cell? ⟨w.heap.size, 6, none⟩ = some (.slice A us.length c) := HX.out.cell' rfl
      have lx := HX.out.lt
      go_wp2_with fail
      refine wp_region_held_drew (S := fun w' => w'.cell? ⟨w.heap.size, 0, none⟩ = some (.int .i64 4)) (by kernel_rfl) x0 (fun hS0 => ?_)
      refine wpAnyH_take (i := 1) (oi := { dst := some 15, op := .fieldAddr 25 (.tmp 1) 0, type := _, pos := _, after := _, guard := _ }) (v := .pointer (some ⟨w.heap.size, 0, none⟩)) rfl (by kernel_rfl) (by kernel_rfl) (by kernel_rfl) (fun _ _ _ h => h) (Or.inl ⟨by rfl, ?_⟩) hS0 ?_
      · intro w' hSw
        go_simp
      try simp only [Act.put, List.setIfInBounds_toArray, List.set_cons_zero, List.set_cons_succ]
      refine wpAnyH_take (i := 2) (oi := { dst := some 16, op := .load 3 (.tmp 15), type := _, pos := _, after := _, guard := _ }) (v := .int .i64 4) rfl (by kernel_rfl) (by kernel_rfl) (by kernel_rfl) (fun _ _ _ h => h) (Or.inl ⟨by rfl, ?_⟩) hS0 ?_
      · intro w' hSw
        go_simp
      try simp only [Act.put, List.setIfInBounds_toArray, List.set_cons_zero, List.set_cons_succ]
      have HX2 : Hid (Is w1.drew w.heap.size 25 #[.int .i64 4, .string user, .int .i64 id, .int .i64 st, .int .i64 pr, .int .u64 (tn : Int), .slice A us.length c]) := HX.out.drewN 1
      have HB2 : Hid (Below w.heap.size w w1.drew) := Lib.hid (Law.below_drewN HB.out 1)
      have HT2 := Lib.hid (HTb.out.below (Law.below_drewN (Below.refl w1.heap.size w1) 1))
      have HU2 := Lib.hid ((HU.out.below (Law.below_drewN (Below.refl w1.heap.size w1) 1)).more (Nat.le_refl _))
      refine wpAnyH_ready (rs := [0]) (by kernel_rfl) (by simp) ?_
      refine AllReadyH.cons (o := { dst := some 14, op := .call { callee := .value (.func 9), args := #[], argTypes := _ }, type := _, pos := _, after := _, guard := _ }) rfl (fun K hK => ?_) AllReadyH.nil
      go_simp
      refine Calls.mono (rNames w1.drew) ?_
      rintro e w3 ⟨D, rfl, hD, b3⟩
      have HX3 := Lib.hid (HX2.out.below b3 HX2.out.lt)
      have HB3 := Lib.hid (HB2.out.trans (b3.mono HB2.out.size))
      have HT3 := Lib.hid (HT2.out.below b3)
      have HU3 := Lib.hid ((HU2.out.below b3).more b3.size)
      have cD := hD 4 nm hna
      have lD := World.block_lt_of_cell? _ _ cD
      simp only at lD
      clear b3 hD hna
      go_wp2_with fail
      refine hK.out _ _ (HX3.out.cell' rfl) (fun hS1 => ?_)
      clear hK K
      try simp only [Act.put, List.setIfInBounds_toArray, List.set_cons_zero, List.set_cons_succ]
      refine wpAnyH_take (i := 3) (oi := { dst := some 17, op := .indexAddr 23 (.tmp 14) (.tmp 16), type := _, pos := _, after := _, guard := _ }) (v := .pointer (some ⟨D, 4, none⟩)) rfl (by kernel_rfl) (by kernel_rfl) (by kernel_rfl) (fun _ _ _ h => h) (Or.inl ⟨by rfl, ?_⟩) hS1 ?_
      · intro w' hSw
        go_simp
      try simp only [Act.put, List.setIfInBounds_toArray, List.set_cons_zero, List.set_cons_succ]
      refine wpAnyH_ready (rs := [4]) (by kernel_rfl) (by simp) ?_
      refine AllReadyH.cons (o := { dst := some 18, op := .load 9 (.tmp 17), type := _, pos := _, after := _, guard := _ }) rfl (fun K hK => ?_) AllReadyH.nil
      go_simp
      refine hK.out _ _ (HX3.out.cell' rfl) (fun hS2 => ?_)
      clear hK K
      try simp only [Act.put, List.setIfInBounds_toArray, List.set_cons_zero, List.set_cons_succ]
      refine wpAnyH_take (i := 5) (oi := { dst := some 3, op := .assign (.tmp 18), type := _, pos := _, after := _, guard := _ }) (v := .string nm) rfl (by kernel_rfl) (by kernel_rfl) (by kernel_rfl) (fun _ _ _ h => h) (Or.inl ⟨by rfl, ?_⟩) hS2 ?_
      · intro w' hSw
        go_simp
      try simp only [Act.put, List.setIfInBounds_toArray, List.set_cons_zero, List.set_cons_succ]
      refine wpAnyH_done (by kernel_rfl) ?_ _
      clear x0 x1 x2 x3 x4 x5 x6 lx cD
      have x0 : w3.cell? ⟨w.heap.size, 0, none⟩ = some (.int .i64 4) := HX3.out.cell' rfl
      have x1 : w3.cell? ⟨w.heap.size, 1, none⟩ = some (.string user) := HX3.out.cell' rfl
      have x2 : w3.cell? ⟨w.heap.size, 2, none⟩ = some (.int .i64 id) := HX3.out.cell' rfl
      have x3 : w3.cell? ⟨w.heap.size, 3, none⟩ = some (.int .i64 st) := HX3.out.cell' rfl
      have x4 : w3.cell? ⟨w.heap.size, 4, none⟩ = some (.int .i64 pr) := HX3.out.cell' rfl
      have x5 : w3.cell? ⟨w.heap.size, 5, none⟩ = some (.int .u64 (tn : Int)) := HX3.out.cell' rfl
      have x6 : w3.cell? ⟨w.heap.size, 6, none⟩ = some (.slice A us.length c) := HX3.out.cell' rfl
      have lx := HX3.out.lt
      go_wp2_with fail
      refine (HQ.out w3 HT3.out).mono ?_
      rintro e w4 ⟨rfl, b4⟩
      have HX4 := Lib.hid (HX3.out.below b4 HX3.out.lt)
      have HB4 := Lib.hid (HB3.out.trans (b4.mono HB3.out.size))
      have HT4 := Lib.hid (HT3.out.below b4)
      have HU4 := Lib.hid ((HU3.out.below b4).more b4.size)
      clear b4 x0 x1 x2 x3 x4 x5 x6 lx
      have x0 : w4.cell? ⟨w.heap.size, 0, none⟩ = some (.int .i64 4) := HX4.out.cell' rfl
      have x1 : w4.cell? ⟨w.heap.size, 1, none⟩ = some (.string user) := HX4.out.cell' rfl
      have x2 : w4.cell? ⟨w.heap.size, 2, none⟩ = some (.int .i64 id) := HX4.out.cell' rfl
      have x3 : w4.cell? ⟨w.heap.size, 3, none⟩ = some (.int .i64 st) := HX4.out.cell' rfl
      have x4 : w4.cell? ⟨w.heap.size, 4, none⟩ = some (.int .i64 pr) := HX4.out.cell' rfl
      have x5 : w4.cell? ⟨w.heap.size, 5, none⟩ = some (.int .u64 (tn : Int)) := HX4.out.cell' rfl
      have x6 : w4.cell? ⟨w.heap.size, 6, none⟩ = some (.slice A us.length c) := HX4.out.cell' rfl
      have lx := HX4.out.lt
      go_wp2_with fail
      go_ret
      exact ⟨rfl, HB4.out⟩
    · obtain ⟨nm, hnm⟩ : ∃ nm, kindB 5 = nm := ⟨_, rfl⟩
      have hns := kindB_size 5
      rw [hnm] at hns
      have hna := name_at 5 (by decide)
      rw [show ((5 : Nat) : Int) = 5 from rfl, hnm] at hna
      have HLN : Hid (lineB ⟨5, user, id, st, pr, (tn : Int), A, c, us⟩ = joinB (nm :: us.map quoteB)) := by
        show _ = _
        have e : lineB ⟨5, user, id, st, pr, (tn : Int), A, c, us⟩ = joinB (nm :: us.map quoteB) := by rw [← hnm]; rfl
        rw [e]
      rw [HLN.out]
      clear hnm HLN
      go_enter Tryd.func11, Tryd.ntmps11
      go_wp2_with fail
      generalize w.alloc (.cells #[.int .i64 5, .string user, .int .i64 id, .int .i64 st, .int .i64 pr, .int .u64 (tn : Int), .slice A us.length c] 25) = w1 at *
      have x0 : w1.cell? ⟨w.heap.size, 0, none⟩ = some (.int .i64 5) := HX.out.cell' rfl
      have x1 : w1.cell? ⟨w.heap.size, 1, none⟩ = some (.string user) := HX.out.cell' rfl
      have x2 : w1.cell? ⟨w.heap.size, 2, none⟩ = some (.int .i64 id) := HX.out.cell' rfl
      have x3 : w1.cell? ⟨w.heap.size, 3, none⟩ = some (.int .i64 st) := HX.out.cell' rfl
      have x4 : w1.cell? ⟨w.heap.size, 4, none⟩ = some (.int .i64 pr) := HX.out.cell' rfl
      have x5 : w1.cell? ⟨w.heap.size, 5, none⟩ = some (.int .u64 (tn : Int)) := HX.out.cell' rfl
      have x6 : w1.cell? ⟨w.heap.size, 6, none⟩ = some (.slice A us.length c) := HX.out.cell' rfl
      have lx := HX.out.lt
      go_wp2_with fail
      refine wp_region_held_drew (S := fun w' => w'.cell? ⟨w.heap.size, 0, none⟩ = some (.int .i64 5)) (by kernel_rfl) x0 (fun hS0 => ?_)
      refine wpAnyH_take (i := 1) (oi := { dst := some 15, op := .fieldAddr 25 (.tmp 1) 0, type := _, pos := _, after := _, guard := _ }) (v := .pointer (some ⟨w.heap.size, 0, none⟩)) rfl (by kernel_rfl) (by kernel_rfl) (by kernel_rfl) (fun _ _ _ h => h) (Or.inl ⟨by rfl, ?_⟩) hS0 ?_
      · intro w' hSw
        go_simp
      try simp only [Act.put, List.setIfInBounds_toArray, List.set_cons_zero, List.set_cons_succ]
      refine wpAnyH_take (i := 2) (oi := { dst := some 16, op := .load 3 (.tmp 15), type := _, pos := _, after := _, guard := _ }) (v := .int .i64 5) rfl (by kernel_rfl) (by kernel_rfl) (by kernel_rfl) (fun _ _ _ h => h) (Or.inl ⟨by rfl, ?_⟩) hS0 ?_
      · intro w' hSw
        go_simp
      try simp only [Act.put, List.setIfInBounds_toArray, List.set_cons_zero, List.set_cons_succ]
      have HX2 : Hid (Is w1.drew w.heap.size 25 #[.int .i64 5, .string user, .int .i64 id, .int .i64 st, .int .i64 pr, .int .u64 (tn : Int), .slice A us.length c]) := HX.out.drewN 1
      have HB2 : Hid (Below w.heap.size w w1.drew) := Lib.hid (Law.below_drewN HB.out 1)
      have HT2 := Lib.hid (HTb.out.below (Law.below_drewN (Below.refl w1.heap.size w1) 1))
      have HU2 := Lib.hid ((HU.out.below (Law.below_drewN (Below.refl w1.heap.size w1) 1)).more (Nat.le_refl _))
      refine wpAnyH_ready (rs := [0]) (by kernel_rfl) (by simp) ?_
      refine AllReadyH.cons (o := { dst := some 14, op := .call { callee := .value (.func 9), args := #[], argTypes := _ }, type := _, pos := _, after := _, guard := _ }) rfl (fun K hK => ?_) AllReadyH.nil
      go_simp
      refine Calls.mono (rNames w1.drew) ?_
      rintro e w3 ⟨D, rfl, hD, b3⟩
      have HX3 := Lib.hid (HX2.out.below b3 HX2.out.lt)
      have HB3 := Lib.hid (HB2.out.trans (b3.mono HB2.out.size))
      have HT3 := Lib.hid (HT2.out.below b3)
      have HU3 := Lib.hid ((HU2.out.below b3).more b3.size)
      have cD := hD 5 nm hna
      have lD := World.block_lt_of_cell? _ _ cD
      simp only at lD
      clear b3 hD hna
      go_wp2_with fail
      refine hK.out _ _ (HX3.out.cell' rfl) (fun hS1 => ?_)
      clear hK K
      try simp only [Act.put, List.setIfInBounds_toArray, List.set_cons_zero, List.set_cons_succ]
      refine wpAnyH_take (i := 3) (oi := { dst := some 17, op := .indexAddr 23 (.tmp 14) (.tmp 16), type := _, pos := _, after := _, guard := _ }) (v := .pointer (some ⟨D, 5, none⟩)) rfl (by kernel_rfl) (by kernel_rfl) (by kernel_rfl) (fun _ _ _ h => h) (Or.inl ⟨by rfl, ?_⟩) hS1 ?_
      · intro w' hSw
        go_simp
      try simp only [Act.put, List.setIfInBounds_toArray, List.set_cons_zero, List.set_cons_succ]
      refine wpAnyH_ready (rs := [4]) (by kernel_rfl) (by simp) ?_
      refine AllReadyH.cons (o := { dst := some 18, op := .load 9 (.tmp 17), type := _, pos := _, after := _, guard := _ }) rfl (fun K hK => ?_) AllReadyH.nil
      go_simp
      refine hK.out _ _ (HX3.out.cell' rfl) (fun hS2 => ?_)
      clear hK K
      try simp only [Act.put, List.setIfInBounds_toArray, List.set_cons_zero, List.set_cons_succ]
      refine wpAnyH_take (i := 5) (oi := { dst := some 3, op := .assign (.tmp 18), type := _, pos := _, after := _, guard := _ }) (v := .string nm) rfl (by kernel_rfl) (by kernel_rfl) (by kernel_rfl) (fun _ _ _ h => h) (Or.inl ⟨by rfl, ?_⟩) hS2 ?_
      · intro w' hSw
        go_simp
      try simp only [Act.put, List.setIfInBounds_toArray, List.set_cons_zero, List.set_cons_succ]
      refine wpAnyH_done (by kernel_rfl) ?_ _
      clear x0 x1 x2 x3 x4 x5 x6 lx cD
      have x0 : w3.cell? ⟨w.heap.size, 0, none⟩ = some (.int .i64 5) := HX3.out.cell' rfl
      have x1 : w3.cell? ⟨w.heap.size, 1, none⟩ = some (.string user) := HX3.out.cell' rfl
      have x2 : w3.cell? ⟨w.heap.size, 2, none⟩ = some (.int .i64 id) := HX3.out.cell' rfl
      have x3 : w3.cell? ⟨w.heap.size, 3, none⟩ = some (.int .i64 st) := HX3.out.cell' rfl
      have x4 : w3.cell? ⟨w.heap.size, 4, none⟩ = some (.int .i64 pr) := HX3.out.cell' rfl
      have x5 : w3.cell? ⟨w.heap.size, 5, none⟩ = some (.int .u64 (tn : Int)) := HX3.out.cell' rfl
      have x6 : w3.cell? ⟨w.heap.size, 6, none⟩ = some (.slice A us.length c) := HX3.out.cell' rfl
      have lx := HX3.out.lt
      go_wp2_with fail
      refine (HQ.out w3 HT3.out).mono ?_
      rintro e w4 ⟨rfl, b4⟩
      have HX4 := Lib.hid (HX3.out.below b4 HX3.out.lt)
      have HB4 := Lib.hid (HB3.out.trans (b4.mono HB3.out.size))
      have HT4 := Lib.hid (HT3.out.below b4)
      have HU4 := Lib.hid ((HU3.out.below b4).more b4.size)
      clear b4 x0 x1 x2 x3 x4 x5 x6 lx
      have x0 : w4.cell? ⟨w.heap.size, 0, none⟩ = some (.int .i64 5) := HX4.out.cell' rfl
      have x1 : w4.cell? ⟨w.heap.size, 1, none⟩ = some (.string user) := HX4.out.cell' rfl
      have x2 : w4.cell? ⟨w.heap.size, 2, none⟩ = some (.int .i64 id) := HX4.out.cell' rfl
      have x3 : w4.cell? ⟨w.heap.size, 3, none⟩ = some (.int .i64 st) := HX4.out.cell' rfl
      have x4 : w4.cell? ⟨w.heap.size, 4, none⟩ = some (.int .i64 pr) := HX4.out.cell' rfl
      have x5 : w4.cell? ⟨w.heap.size, 5, none⟩ = some (.int .u64 (tn : Int)) := HX4.out.cell' rfl
      have x6 : w4.cell? ⟨w.heap.size, 6, none⟩ = some (.slice A us.length c) := HX4.out.cell' rfl
      have lx := HX4.out.lt
      go_wp2_with fail
      have hs6 : ∀ j, (joinB (nm :: (us.take j).map quoteB)).size ≤ 9000 := by
        intro j
        have h1 := join_le (nm :: (us.take j).map quoteB) 402 (fun x hx => by
          rcases List.mem_cons.1 hx with rfl | hx
          · omega
          · obtain ⟨u, hu', rfl⟩ := List.mem_map.1 hx
            have := quoteB_size u
            have := HUS.out u (List.mem_of_mem_take hu')
            omega)
        have h2 : (nm :: (us.take j).map quoteB).length ≤ 21 := by simp; omega
        have := Nat.mul_le_mul_right (402 + 1) h2
        omega
      have HS6 := Lib.hid hs6
      clear hs6
      have HJ0 : Hid (nm = joinB (nm :: (us.take 0).map quoteB)) := Lib.hid (join_one nm).symm
      go_loopw [3, 5] (fun vt vi wr => ∃ j : Nat, j ≤ us.length ∧ vi = .int .i64 j ∧ vt = .string (joinB (nm :: (us.take j).map quoteB)) ∧ Is wr w.heap.size 25 #[.int .i64 5, .string user, .int .i64 id, .int .i64 st, .int .i64 pr, .int .u64 (tn : Int), .slice A us.length c] ∧ Tabs wr ∧ Seq wr 0 wr.heap.size A (us.map .string) ∧ Below w.heap.size w wr) (fun _ vi _ => us.length - (RowKit.intOf vi).toNat)
      case atStart => exact ⟨0, Nat.zero_le _, rfl, by rw [← HJ0.out], HX4.out, HT4.out, HU4.out, HB4.out⟩
      case round =>
        clear x0 x1 x2 x3 x4 x5 x6 lx HX4 HT4 HU4 HB4
        obtain ⟨j, hj, rfl, rfl, hX, hTr, hUr, hB⟩ := hrel
        have HX := Lib.hid hX
        have HTr := Lib.hid hTr
        have HUr := Lib.hid hUr
        have HB := Lib.hid hB
        clear hX hTr hUr hB
        have x6 : wr.cell? ⟨w.heap.size, 6, none⟩ = some (.slice A us.length c) := HX.out.cell' rfl
        have lx := HX.out.lt
        by_cases hlt : j < us.length
        · have d1 : decide ((j : Int) < (us.length : Int)) = true := by simp; omega
          obtain ⟨b, off, hA, _, hb, c0⟩ := HUr.out.str hlt
          have hu40 := HUS.out _ (List.getElem_mem hlt)
          have HTK := Lib.hid (List.take_succ_eq_append_getElem hlt)
          have hsz := HS6.out j
          have HJA := Lib.hid (join_add nm ((us.take j).map quoteB) (quoteB us[j]))
          generalize us[j] = u at *
          generalize joinB (nm :: (us.take j).map quoteB) = sj at *
          have hqs := quoteB_size u
          subst hA
          go_wp2_with fail
          refine (quote u (by omega) wr HTr.out).mono ?_
          rintro e w5 ⟨rfl, b5⟩
          have HX5 := Lib.hid (HX.out.below b5 HX.out.lt)
          have HB5 := Lib.hid (HB.out.trans (b5.mono HB.out.size))
          have HT5 := Lib.hid (HTr.out.below b5)
          have HU5 := Lib.hid ((HUr.out.below b5).more b5.size)
          clear b5
          go_wp2_with fail
          go_roundw
          case rel => exact ⟨j + 1, by omega, by go_num, by rw [HJA.out, HTK.out, List.map_append]; rfl, HX5.out, HT5.out, HU5.out, HB5.out⟩
          case measure => simp [RowKit.intOf]; omega
        · have d1 : decide ((j : Int) < (us.length : Int)) = false := by simp; omega
          rw [List.take_of_length_le (by omega)]
          go_wp2_with fail
          go_ret
          exact ⟨rfl, HB.out⟩
    · obtain ⟨nm, hnm⟩ : ∃ nm, kindB 6 = nm := ⟨_, rfl⟩
      have hns := kindB_size 6
      rw [hnm] at hns
      have hna := name_at 6 (by decide)
      rw [show ((6 : Nat) : Int) = 6 from rfl, hnm] at hna
      have HLN : Hid (lineB ⟨6, user, id, st, pr, (tn : Int), A, c, us⟩ = nm ++ (⟨#[32]⟩ ++ quoteB user)) := by
        show _ = _
        have e : lineB ⟨6, user, id, st, pr, (tn : Int), A, c, us⟩ = joinB (nm :: [quoteB user]) := by rw [← hnm]; rfl
        rw [e]
        simp only [join_two, join_one] <;> (apply ByteArray.ext; simp only [ByteArray.data_append, Array.append_assoc])
      rw [HLN.out]
      clear hnm HLN
      go_enter Tryd.func11, Tryd.ntmps11
      go_wp2_with fail
      generalize w.alloc (.cells #[.int .i64 6, .string user, .int .i64 id, .int .i64 st, .int .i64 pr, .int .u64 (tn : Int), .slice A us.length c] 25) = w1 at *
      have x0 : w1.cell? ⟨w.heap.size, 0, none⟩ = some (.int .i64 6) := HX.out.cell' rfl
      have x1 : w1.cell? ⟨w.heap.size, 1, none⟩ = some (.string user) := HX.out.cell' rfl
      have x2 : w1.cell? ⟨w.heap.size, 2, none⟩ = some (.int .i64 id) := HX.out.cell' rfl
      have x3 : w1.cell? ⟨w.heap.size, 3, none⟩ = some (.int .i64 st) := HX.out.cell' rfl
      have x4 : w1.cell? ⟨w.heap.size, 4, none⟩ = some (.int .i64 pr) := HX.out.cell' rfl
      have x5 : w1.cell? ⟨w.heap.size, 5, none⟩ = some (.int .u64 (tn : Int)) := HX.out.cell' rfl
      have x6 : w1.cell? ⟨w.heap.size, 6, none⟩ = some (.slice A us.length c) := HX.out.cell' rfl
      have lx := HX.out.lt
      go_wp2_with fail
      refine wp_region_held_drew (S := fun w' => w'.cell? ⟨w.heap.size, 0, none⟩ = some (.int .i64 6)) (by kernel_rfl) x0 (fun hS0 => ?_)
      refine wpAnyH_take (i := 1) (oi := { dst := some 15, op := .fieldAddr 25 (.tmp 1) 0, type := _, pos := _, after := _, guard := _ }) (v := .pointer (some ⟨w.heap.size, 0, none⟩)) rfl (by kernel_rfl) (by kernel_rfl) (by kernel_rfl) (fun _ _ _ h => h) (Or.inl ⟨by rfl, ?_⟩) hS0 ?_
      · intro w' hSw
        go_simp
      try simp only [Act.put, List.setIfInBounds_toArray, List.set_cons_zero, List.set_cons_succ]
      refine wpAnyH_take (i := 2) (oi := { dst := some 16, op := .load 3 (.tmp 15), type := _, pos := _, after := _, guard := _ }) (v := .int .i64 6) rfl (by kernel_rfl) (by kernel_rfl) (by kernel_rfl) (fun _ _ _ h => h) (Or.inl ⟨by rfl, ?_⟩) hS0 ?_
      · intro w' hSw
        go_simp
      try simp only [Act.put, List.setIfInBounds_toArray, List.set_cons_zero, List.set_cons_succ]
      have HX2 : Hid (Is w1.drew w.heap.size 25 #[.int .i64 6, .string user, .int .i64 id, .int .i64 st, .int .i64 pr, .int .u64 (tn : Int), .slice A us.length c]) := HX.out.drewN 1
      have HB2 : Hid (Below w.heap.size w w1.drew) := Lib.hid (Law.below_drewN HB.out 1)
      have HT2 := Lib.hid (HTb.out.below (Law.below_drewN (Below.refl w1.heap.size w1) 1))
      have HU2 := Lib.hid ((HU.out.below (Law.below_drewN (Below.refl w1.heap.size w1) 1)).more (Nat.le_refl _))
      refine wpAnyH_ready (rs := [0]) (by kernel_rfl) (by simp) ?_
      refine AllReadyH.cons (o := { dst := some 14, op := .call { callee := .value (.func 9), args := #[], argTypes := _ }, type := _, pos := _, after := _, guard := _ }) rfl (fun K hK => ?_) AllReadyH.nil
      go_simp
      refine Calls.mono (rNames w1.drew) ?_
      rintro e w3 ⟨D, rfl, hD, b3⟩
      have HX3 := Lib.hid (HX2.out.below b3 HX2.out.lt)
      have HB3 := Lib.hid (HB2.out.trans (b3.mono HB2.out.size))
      have HT3 := Lib.hid (HT2.out.below b3)
      have HU3 := Lib.hid ((HU2.out.below b3).more b3.size)
      have cD := hD 6 nm hna
      have lD := World.block_lt_of_cell? _ _ cD
      simp only at lD
      clear b3 hD hna
      go_wp2_with fail
      refine hK.out _ _ (HX3.out.cell' rfl) (fun hS1 => ?_)
      clear hK K
      try simp only [Act.put, List.setIfInBounds_toArray, List.set_cons_zero, List.set_cons_succ]
      refine wpAnyH_take (i := 3) (oi := { dst := some 17, op := .indexAddr 23 (.tmp 14) (.tmp 16), type := _, pos := _, after := _, guard := _ }) (v := .pointer (some ⟨D, 6, none⟩)) rfl (by kernel_rfl) (by kernel_rfl) (by kernel_rfl) (fun _ _ _ h => h) (Or.inl ⟨by rfl, ?_⟩) hS1 ?_
      · intro w' hSw
        go_simp
      try simp only [Act.put, List.setIfInBounds_toArray, List.set_cons_zero, List.set_cons_succ]
      refine wpAnyH_ready (rs := [4]) (by kernel_rfl) (by simp) ?_
      refine AllReadyH.cons (o := { dst := some 18, op := .load 9 (.tmp 17), type := _, pos := _, after := _, guard := _ }) rfl (fun K hK => ?_) AllReadyH.nil
      go_simp
      refine hK.out _ _ (HX3.out.cell' rfl) (fun hS2 => ?_)
      clear hK K
      try simp only [Act.put, List.setIfInBounds_toArray, List.set_cons_zero, List.set_cons_succ]
      refine wpAnyH_take (i := 5) (oi := { dst := some 3, op := .assign (.tmp 18), type := _, pos := _, after := _, guard := _ }) (v := .string nm) rfl (by kernel_rfl) (by kernel_rfl) (by kernel_rfl) (fun _ _ _ h => h) (Or.inl ⟨by rfl, ?_⟩) hS2 ?_
      · intro w' hSw
        go_simp
      try simp only [Act.put, List.setIfInBounds_toArray, List.set_cons_zero, List.set_cons_succ]
      refine wpAnyH_done (by kernel_rfl) ?_ _
      clear x0 x1 x2 x3 x4 x5 x6 lx cD
      have x0 : w3.cell? ⟨w.heap.size, 0, none⟩ = some (.int .i64 6) := HX3.out.cell' rfl
      have x1 : w3.cell? ⟨w.heap.size, 1, none⟩ = some (.string user) := HX3.out.cell' rfl
      have x2 : w3.cell? ⟨w.heap.size, 2, none⟩ = some (.int .i64 id) := HX3.out.cell' rfl
      have x3 : w3.cell? ⟨w.heap.size, 3, none⟩ = some (.int .i64 st) := HX3.out.cell' rfl
      have x4 : w3.cell? ⟨w.heap.size, 4, none⟩ = some (.int .i64 pr) := HX3.out.cell' rfl
      have x5 : w3.cell? ⟨w.heap.size, 5, none⟩ = some (.int .u64 (tn : Int)) := HX3.out.cell' rfl
      have x6 : w3.cell? ⟨w.heap.size, 6, none⟩ = some (.slice A us.length c) := HX3.out.cell' rfl
      have lx := HX3.out.lt
      go_wp2_with fail
      refine (HQ.out w3 HT3.out).mono ?_
      rintro e w4 ⟨rfl, b4⟩
      have HX4 := Lib.hid (HX3.out.below b4 HX3.out.lt)
      have HB4 := Lib.hid (HB3.out.trans (b4.mono HB3.out.size))
      have HT4 := Lib.hid (HT3.out.below b4)
      have HU4 := Lib.hid ((HU3.out.below b4).more b4.size)
      clear b4 x0 x1 x2 x3 x4 x5 x6 lx
      have x0 : w4.cell? ⟨w.heap.size, 0, none⟩ = some (.int .i64 6) := HX4.out.cell' rfl
      have x1 : w4.cell? ⟨w.heap.size, 1, none⟩ = some (.string user) := HX4.out.cell' rfl
      have x2 : w4.cell? ⟨w.heap.size, 2, none⟩ = some (.int .i64 id) := HX4.out.cell' rfl
      have x3 : w4.cell? ⟨w.heap.size, 3, none⟩ = some (.int .i64 st) := HX4.out.cell' rfl
      have x4 : w4.cell? ⟨w.heap.size, 4, none⟩ = some (.int .i64 pr) := HX4.out.cell' rfl
      have x5 : w4.cell? ⟨w.heap.size, 5, none⟩ = some (.int .u64 (tn : Int)) := HX4.out.cell' rfl
      have x6 : w4.cell? ⟨w.heap.size, 6, none⟩ = some (.slice A us.length c) := HX4.out.cell' rfl
      have lx := HX4.out.lt
      go_wp2_with fail
      go_ret
      exact ⟨rfl, HB4.out⟩
    · obtain ⟨nm, hnm⟩ : ∃ nm, kindB 7 = nm := ⟨_, rfl⟩
      have hns := kindB_size 7
      rw [hnm] at hns
      have hna := name_at 7 (by decide)
      rw [show ((7 : Nat) : Int) = 7 from rfl, hnm] at hna
      have HLN : Hid (lineB ⟨7, user, id, st, pr, (tn : Int), A, c, us⟩ = nm ++ (⟨#[32]⟩ ++ quoteB user)) := by
        show _ = _
        have e : lineB ⟨7, user, id, st, pr, (tn : Int), A, c, us⟩ = joinB (nm :: [quoteB user]) := by rw [← hnm]; rfl
        rw [e]
        simp only [join_two, join_one] <;> (apply ByteArray.ext; simp only [ByteArray.data_append, Array.append_assoc])
      rw [HLN.out]
      clear hnm HLN
      go_enter Tryd.func11, Tryd.ntmps11
      go_wp2_with fail
      generalize w.alloc (.cells #[.int .i64 7, .string user, .int .i64 id, .int .i64 st, .int .i64 pr, .int .u64 (tn : Int), .slice A us.length c] 25) = w1 at *
      have x0 : w1.cell? ⟨w.heap.size, 0, none⟩ = some (.int .i64 7) := HX.out.cell' rfl
      have x1 : w1.cell? ⟨w.heap.size, 1, none⟩ = some (.string user) := HX.out.cell' rfl
      have x2 : w1.cell? ⟨w.heap.size, 2, none⟩ = some (.int .i64 id) := HX.out.cell' rfl
      have x3 : w1.cell? ⟨w.heap.size, 3, none⟩ = some (.int .i64 st) := HX.out.cell' rfl
      have x4 : w1.cell? ⟨w.heap.size, 4, none⟩ = some (.int .i64 pr) := HX.out.cell' rfl
      have x5 : w1.cell? ⟨w.heap.size, 5, none⟩ = some (.int .u64 (tn : Int)) := HX.out.cell' rfl
      have x6 : w1.cell? ⟨w.heap.size, 6, none⟩ = some (.slice A us.length c) := HX.out.cell' rfl
      have lx := HX.out.lt
      go_wp2_with fail
      refine wp_region_held_drew (S := fun w' => w'.cell? ⟨w.heap.size, 0, none⟩ = some (.int .i64 7)) (by kernel_rfl) x0 (fun hS0 => ?_)
      refine wpAnyH_take (i := 1) (oi := { dst := some 15, op := .fieldAddr 25 (.tmp 1) 0, type := _, pos := _, after := _, guard := _ }) (v := .pointer (some ⟨w.heap.size, 0, none⟩)) rfl (by kernel_rfl) (by kernel_rfl) (by kernel_rfl) (fun _ _ _ h => h) (Or.inl ⟨by rfl, ?_⟩) hS0 ?_
      · intro w' hSw
        go_simp
      try simp only [Act.put, List.setIfInBounds_toArray, List.set_cons_zero, List.set_cons_succ]
      refine wpAnyH_take (i := 2) (oi := { dst := some 16, op := .load 3 (.tmp 15), type := _, pos := _, after := _, guard := _ }) (v := .int .i64 7) rfl (by kernel_rfl) (by kernel_rfl) (by kernel_rfl) (fun _ _ _ h => h) (Or.inl ⟨by rfl, ?_⟩) hS0 ?_
      · intro w' hSw
        go_simp
      try simp only [Act.put, List.setIfInBounds_toArray, List.set_cons_zero, List.set_cons_succ]
      have HX2 : Hid (Is w1.drew w.heap.size 25 #[.int .i64 7, .string user, .int .i64 id, .int .i64 st, .int .i64 pr, .int .u64 (tn : Int), .slice A us.length c]) := HX.out.drewN 1
      have HB2 : Hid (Below w.heap.size w w1.drew) := Lib.hid (Law.below_drewN HB.out 1)
      have HT2 := Lib.hid (HTb.out.below (Law.below_drewN (Below.refl w1.heap.size w1) 1))
      have HU2 := Lib.hid ((HU.out.below (Law.below_drewN (Below.refl w1.heap.size w1) 1)).more (Nat.le_refl _))
      refine wpAnyH_ready (rs := [0]) (by kernel_rfl) (by simp) ?_
      refine AllReadyH.cons (o := { dst := some 14, op := .call { callee := .value (.func 9), args := #[], argTypes := _ }, type := _, pos := _, after := _, guard := _ }) rfl (fun K hK => ?_) AllReadyH.nil
      go_simp
      refine Calls.mono (rNames w1.drew) ?_
      rintro e w3 ⟨D, rfl, hD, b3⟩
      have HX3 := Lib.hid (HX2.out.below b3 HX2.out.lt)
      have HB3 := Lib.hid (HB2.out.trans (b3.mono HB2.out.size))
      have HT3 := Lib.hid (HT2.out.below b3)
      have HU3 := Lib.hid ((HU2.out.below b3).more b3.size)
      have cD := hD 7 nm hna
      have lD := World.block_lt_of_cell? _ _ cD
      simp only at lD
      clear b3 hD hna
      go_wp2_with fail
      refine hK.out _ _ (HX3.out.cell' rfl) (fun hS1 => ?_)
      clear hK K
      try simp only [Act.put, List.setIfInBounds_toArray, List.set_cons_zero, List.set_cons_succ]
      refine wpAnyH_take (i := 3) (oi := { dst := some 17, op := .indexAddr 23 (.tmp 14) (.tmp 16), type := _, pos := _, after := _, guard := _ }) (v := .pointer (some ⟨D, 7, none⟩)) rfl (by kernel_rfl) (by kernel_rfl) (by kernel_rfl) (fun _ _ _ h => h) (Or.inl ⟨by rfl, ?_⟩) hS1 ?_
      · intro w' hSw
        go_simp
      try simp only [Act.put, List.setIfInBounds_toArray, List.set_cons_zero, List.set_cons_succ]
      refine wpAnyH_ready (rs := [4]) (by kernel_rfl) (by simp) ?_
      refine AllReadyH.cons (o := { dst := some 18, op := .load 9 (.tmp 17), type := _, pos := _, after := _, guard := _ }) rfl (fun K hK => ?_) AllReadyH.nil
      go_simp
      refine hK.out _ _ (HX3.out.cell' rfl) (fun hS2 => ?_)
      clear hK K
      try simp only [Act.put, List.setIfInBounds_toArray, List.set_cons_zero, List.set_cons_succ]
      refine wpAnyH_take (i := 5) (oi := { dst := some 3, op := .assign (.tmp 18), type := _, pos := _, after := _, guard := _ }) (v := .string nm) rfl (by kernel_rfl) (by kernel_rfl) (by kernel_rfl) (fun _ _ _ h => h) (Or.inl ⟨by rfl, ?_⟩) hS2 ?_
      · intro w' hSw
        go_simp
      try simp only [Act.put, List.setIfInBounds_toArray, List.set_cons_zero, List.set_cons_succ]
      refine wpAnyH_done (by kernel_rfl) ?_ _
      clear x0 x1 x2 x3 x4 x5 x6 lx cD
      have x0 : w3.cell? ⟨w.heap.size, 0, none⟩ = some (.int .i64 7) := HX3.out.cell' rfl
      have x1 : w3.cell? ⟨w.heap.size, 1, none⟩ = some (.string user) := HX3.out.cell' rfl
      have x2 : w3.cell? ⟨w.heap.size, 2, none⟩ = some (.int .i64 id) := HX3.out.cell' rfl
      have x3 : w3.cell? ⟨w.heap.size, 3, none⟩ = some (.int .i64 st) := HX3.out.cell' rfl
      have x4 : w3.cell? ⟨w.heap.size, 4, none⟩ = some (.int .i64 pr) := HX3.out.cell' rfl
      have x5 : w3.cell? ⟨w.heap.size, 5, none⟩ = some (.int .u64 (tn : Int)) := HX3.out.cell' rfl
      have x6 : w3.cell? ⟨w.heap.size, 6, none⟩ = some (.slice A us.length c) := HX3.out.cell' rfl
      have lx := HX3.out.lt
      go_wp2_with fail
      refine (HQ.out w3 HT3.out).mono ?_
      rintro e w4 ⟨rfl, b4⟩
      have HX4 := Lib.hid (HX3.out.below b4 HX3.out.lt)
      have HB4 := Lib.hid (HB3.out.trans (b4.mono HB3.out.size))
      have HT4 := Lib.hid (HT3.out.below b4)
      have HU4 := Lib.hid ((HU3.out.below b4).more b4.size)
      clear b4 x0 x1 x2 x3 x4 x5 x6 lx
      have x0 : w4.cell? ⟨w.heap.size, 0, none⟩ = some (.int .i64 7) := HX4.out.cell' rfl
      have x1 : w4.cell? ⟨w.heap.size, 1, none⟩ = some (.string user) := HX4.out.cell' rfl
      have x2 : w4.cell? ⟨w.heap.size, 2, none⟩ = some (.int .i64 id) := HX4.out.cell' rfl
      have x3 : w4.cell? ⟨w.heap.size, 3, none⟩ = some (.int .i64 st) := HX4.out.cell' rfl
      have x4 : w4.cell? ⟨w.heap.size, 4, none⟩ = some (.int .i64 pr) := HX4.out.cell' rfl
      have x5 : w4.cell? ⟨w.heap.size, 5, none⟩ = some (.int .u64 (tn : Int)) := HX4.out.cell' rfl
      have x6 : w4.cell? ⟨w.heap.size, 6, none⟩ = some (.slice A us.length c) := HX4.out.cell' rfl
      have lx := HX4.out.lt
      go_wp2_with fail
      go_ret
      exact ⟨rfl, HB4.out⟩
    · obtain ⟨nm, hnm⟩ : ∃ nm, kindB 8 = nm := ⟨_, rfl⟩
      have hns := kindB_size 8
      rw [hnm] at hns
      have hna := name_at 8 (by decide)
      rw [show ((8 : Nat) : Int) = 8 from rfl, hnm] at hna
      have HLN : Hid (lineB ⟨8, user, id, st, pr, (tn : Int), A, c, us⟩ = nm) := by
        show _ = _
        have e : lineB ⟨8, user, id, st, pr, (tn : Int), A, c, us⟩ = nm := by rw [← hnm]; rfl
        rw [e]
      rw [HLN.out]
      clear hnm HLN
      go_enter Tryd.func11, Tryd.ntmps11
      go_wp2_with fail
      generalize w.alloc (.cells #[.int .i64 8, .string user, .int .i64 id, .int .i64 st, .int .i64 pr, .int .u64 (tn : Int), .slice A us.length c] 25) = w1 at *
      have x0 : w1.cell? ⟨w.heap.size, 0, none⟩ = some (.int .i64 8) := HX.out.cell' rfl
      have x1 : w1.cell? ⟨w.heap.size, 1, none⟩ = some (.string user) := HX.out.cell' rfl
      have x2 : w1.cell? ⟨w.heap.size, 2, none⟩ = some (.int .i64 id) := HX.out.cell' rfl
      have x3 : w1.cell? ⟨w.heap.size, 3, none⟩ = some (.int .i64 st) := HX.out.cell' rfl
      have x4 : w1.cell? ⟨w.heap.size, 4, none⟩ = some (.int .i64 pr) := HX.out.cell' rfl
      have x5 : w1.cell? ⟨w.heap.size, 5, none⟩ = some (.int .u64 (tn : Int)) := HX.out.cell' rfl
      have x6 : w1.cell? ⟨w.heap.size, 6, none⟩ = some (.slice A us.length c) := HX.out.cell' rfl
      have lx := HX.out.lt
      go_wp2_with fail
      refine wp_region_held_drew (S := fun w' => w'.cell? ⟨w.heap.size, 0, none⟩ = some (.int .i64 8)) (by kernel_rfl) x0 (fun hS0 => ?_)
      refine wpAnyH_take (i := 1) (oi := { dst := some 15, op := .fieldAddr 25 (.tmp 1) 0, type := _, pos := _, after := _, guard := _ }) (v := .pointer (some ⟨w.heap.size, 0, none⟩)) rfl (by kernel_rfl) (by kernel_rfl) (by kernel_rfl) (fun _ _ _ h => h) (Or.inl ⟨by rfl, ?_⟩) hS0 ?_
      · intro w' hSw
        go_simp
      try simp only [Act.put, List.setIfInBounds_toArray, List.set_cons_zero, List.set_cons_succ]
      refine wpAnyH_take (i := 2) (oi := { dst := some 16, op := .load 3 (.tmp 15), type := _, pos := _, after := _, guard := _ }) (v := .int .i64 8) rfl (by kernel_rfl) (by kernel_rfl) (by kernel_rfl) (fun _ _ _ h => h) (Or.inl ⟨by rfl, ?_⟩) hS0 ?_
      · intro w' hSw
        go_simp
      try simp only [Act.put, List.setIfInBounds_toArray, List.set_cons_zero, List.set_cons_succ]
      have HX2 : Hid (Is w1.drew w.heap.size 25 #[.int .i64 8, .string user, .int .i64 id, .int .i64 st, .int .i64 pr, .int .u64 (tn : Int), .slice A us.length c]) := HX.out.drewN 1
      have HB2 : Hid (Below w.heap.size w w1.drew) := Lib.hid (Law.below_drewN HB.out 1)
      have HT2 := Lib.hid (HTb.out.below (Law.below_drewN (Below.refl w1.heap.size w1) 1))
      have HU2 := Lib.hid ((HU.out.below (Law.below_drewN (Below.refl w1.heap.size w1) 1)).more (Nat.le_refl _))
      refine wpAnyH_ready (rs := [0]) (by kernel_rfl) (by simp) ?_
      refine AllReadyH.cons (o := { dst := some 14, op := .call { callee := .value (.func 9), args := #[], argTypes := _ }, type := _, pos := _, after := _, guard := _ }) rfl (fun K hK => ?_) AllReadyH.nil
      go_simp
      refine Calls.mono (rNames w1.drew) ?_
      rintro e w3 ⟨D, rfl, hD, b3⟩
      have HX3 := Lib.hid (HX2.out.below b3 HX2.out.lt)
      have HB3 := Lib.hid (HB2.out.trans (b3.mono HB2.out.size))
      have HT3 := Lib.hid (HT2.out.below b3)
      have HU3 := Lib.hid ((HU2.out.below b3).more b3.size)
      have cD := hD 8 nm hna
      have lD := World.block_lt_of_cell? _ _ cD
      simp only at lD
      clear b3 hD hna
      go_wp2_with fail
      refine hK.out _ _ (HX3.out.cell' rfl) (fun hS1 => ?_)
      clear hK K
      try simp only [Act.put, List.setIfInBounds_toArray, List.set_cons_zero, List.set_cons_succ]
      refine wpAnyH_take (i := 3) (oi := { dst := some 17, op := .indexAddr 23 (.tmp 14) (.tmp 16), type := _, pos := _, after := _, guard := _ }) (v := .pointer (some ⟨D, 8, none⟩)) rfl (by kernel_rfl) (by kernel_rfl) (by kernel_rfl) (fun _ _ _ h => h) (Or.inl ⟨by rfl, ?_⟩) hS1 ?_
      · intro w' hSw
        go_simp
      try simp only [Act.put, List.setIfInBounds_toArray, List.set_cons_zero, List.set_cons_succ]
      refine wpAnyH_ready (rs := [4]) (by kernel_rfl) (by simp) ?_
      refine AllReadyH.cons (o := { dst := some 18, op := .load 9 (.tmp 17), type := _, pos := _, after := _, guard := _ }) rfl (fun K hK => ?_) AllReadyH.nil
      go_simp
      refine hK.out _ _ (HX3.out.cell' rfl) (fun hS2 => ?_)
      clear hK K
      try simp only [Act.put, List.setIfInBounds_toArray, List.set_cons_zero, List.set_cons_succ]
      refine wpAnyH_take (i := 5) (oi := { dst := some 3, op := .assign (.tmp 18), type := _, pos := _, after := _, guard := _ }) (v := .string nm) rfl (by kernel_rfl) (by kernel_rfl) (by kernel_rfl) (fun _ _ _ h => h) (Or.inl ⟨by rfl, ?_⟩) hS2 ?_
      · intro w' hSw
        go_simp
      try simp only [Act.put, List.setIfInBounds_toArray, List.set_cons_zero, List.set_cons_succ]
      refine wpAnyH_done (by kernel_rfl) ?_ _
      clear x0 x1 x2 x3 x4 x5 x6 lx cD
      have x0 : w3.cell? ⟨w.heap.size, 0, none⟩ = some (.int .i64 8) := HX3.out.cell' rfl
      have x1 : w3.cell? ⟨w.heap.size, 1, none⟩ = some (.string user) := HX3.out.cell' rfl
      have x2 : w3.cell? ⟨w.heap.size, 2, none⟩ = some (.int .i64 id) := HX3.out.cell' rfl
      have x3 : w3.cell? ⟨w.heap.size, 3, none⟩ = some (.int .i64 st) := HX3.out.cell' rfl
      have x4 : w3.cell? ⟨w.heap.size, 4, none⟩ = some (.int .i64 pr) := HX3.out.cell' rfl
      have x5 : w3.cell? ⟨w.heap.size, 5, none⟩ = some (.int .u64 (tn : Int)) := HX3.out.cell' rfl
      have x6 : w3.cell? ⟨w.heap.size, 6, none⟩ = some (.slice A us.length c) := HX3.out.cell' rfl
      have lx := HX3.out.lt
      go_wp2_with fail
      refine (HQ.out w3 HT3.out).mono ?_
      rintro e w4 ⟨rfl, b4⟩
      have HX4 := Lib.hid (HX3.out.below b4 HX3.out.lt)
      have HB4 := Lib.hid (HB3.out.trans (b4.mono HB3.out.size))
      have HT4 := Lib.hid (HT3.out.below b4)
      have HU4 := Lib.hid ((HU3.out.below b4).more b4.size)
      clear b4 x0 x1 x2 x3 x4 x5 x6 lx
      have x0 : w4.cell? ⟨w.heap.size, 0, none⟩ = some (.int .i64 8) := HX4.out.cell' rfl
      have x1 : w4.cell? ⟨w.heap.size, 1, none⟩ = some (.string user) := HX4.out.cell' rfl
      have x2 : w4.cell? ⟨w.heap.size, 2, none⟩ = some (.int .i64 id) := HX4.out.cell' rfl
      have x3 : w4.cell? ⟨w.heap.size, 3, none⟩ = some (.int .i64 st) := HX4.out.cell' rfl
      have x4 : w4.cell? ⟨w.heap.size, 4, none⟩ = some (.int .i64 pr) := HX4.out.cell' rfl
      have x5 : w4.cell? ⟨w.heap.size, 5, none⟩ = some (.int .u64 (tn : Int)) := HX4.out.cell' rfl
      have x6 : w4.cell? ⟨w.heap.size, 6, none⟩ = some (.slice A us.length c) := HX4.out.cell' rfl
      have lx := HX4.out.lt
      go_wp2_with fail
      go_ret
      exact ⟨rfl, HB4.out⟩
    · obtain ⟨nm, hnm⟩ : ∃ nm, kindB 9 = nm := ⟨_, rfl⟩
      have hns := kindB_size 9
      rw [hnm] at hns
      have hna := name_at 9 (by decide)
      rw [show ((9 : Nat) : Int) = 9 from rfl, hnm] at hna
      have HLN : Hid (lineB ⟨9, user, id, st, pr, (tn : Int), A, c, us⟩ = nm) := by
        show _ = _
        have e : lineB ⟨9, user, id, st, pr, (tn : Int), A, c, us⟩ = nm := by rw [← hnm]; rfl
        rw [e]
      rw [HLN.out]
      clear hnm HLN
      go_enter Tryd.func11, Tryd.ntmps11
      go_wp2_with fail
      generalize w.alloc (.cells #[.int .i64 9, .string user, .int .i64 id, .int .i64 st, .int .i64 pr, .int .u64 (tn : Int), .slice A us.length c] 25) = w1 at *
      have x0 : w1.cell? ⟨w.heap.size, 0, none⟩ = some (.int .i64 9) := HX.out.cell' rfl
      have x1 : w1.cell? ⟨w.heap.size, 1, none⟩ = some (.string user) := HX.out.cell' rfl
      have x2 : w1.cell? ⟨w.heap.size, 2, none⟩ = some (.int .i64 id) := HX.out.cell' rfl
      have x3 : w1.cell? ⟨w.heap.size, 3, none⟩ = some (.int .i64 st) := HX.out.cell' rfl
      have x4 : w1.cell? ⟨w.heap.size, 4, none⟩ = some (.int .i64 pr) := HX.out.cell' rfl
      have x5 : w1.cell? ⟨w.heap.size, 5, none⟩ = some (.int .u64 (tn : Int)) := HX.out.cell' rfl
      have x6 : w1.cell? ⟨w.heap.size, 6, none⟩ = some (.slice A us.length c) := HX.out.cell' rfl
      have lx := HX.out.lt
      go_wp2_with fail
      refine wp_region_held_drew (S := fun w' => w'.cell? ⟨w.heap.size, 0, none⟩ = some (.int .i64 9)) (by kernel_rfl) x0 (fun hS0 => ?_)
      refine wpAnyH_take (i := 1) (oi := { dst := some 15, op := .fieldAddr 25 (.tmp 1) 0, type := _, pos := _, after := _, guard := _ }) (v := .pointer (some ⟨w.heap.size, 0, none⟩)) rfl (by kernel_rfl) (by kernel_rfl) (by kernel_rfl) (fun _ _ _ h => h) (Or.inl ⟨by rfl, ?_⟩) hS0 ?_
      · intro w' hSw
        go_simp
      try simp only [Act.put, List.setIfInBounds_toArray, List.set_cons_zero, List.set_cons_succ]
      refine wpAnyH_take (i := 2) (oi := { dst := some 16, op := .load 3 (.tmp 15), type := _, pos := _, after := _, guard := _ }) (v := .int .i64 9) rfl (by kernel_rfl) (by kernel_rfl) (by kernel_rfl) (fun _ _ _ h => h) (Or.inl ⟨by rfl, ?_⟩) hS0 ?_
      · intro w' hSw
        go_simp
      try simp only [Act.put, List.setIfInBounds_toArray, List.set_cons_zero, List.set_cons_succ]
      have HX2 : Hid (Is w1.drew w.heap.size 25 #[.int .i64 9, .string user, .int .i64 id, .int .i64 st, .int .i64 pr, .int .u64 (tn : Int), .slice A us.length c]) := HX.out.drewN 1
      have HB2 : Hid (Below w.heap.size w w1.drew) := Lib.hid (Law.below_drewN HB.out 1)
      have HT2 := Lib.hid (HTb.out.below (Law.below_drewN (Below.refl w1.heap.size w1) 1))
      have HU2 := Lib.hid ((HU.out.below (Law.below_drewN (Below.refl w1.heap.size w1) 1)).more (Nat.le_refl _))
      refine wpAnyH_ready (rs := [0]) (by kernel_rfl) (by simp) ?_
      refine AllReadyH.cons (o := { dst := some 14, op := .call { callee := .value (.func 9), args := #[], argTypes := _ }, type := _, pos := _, after := _, guard := _ }) rfl (fun K hK => ?_) AllReadyH.nil
      go_simp
      refine Calls.mono (rNames w1.drew) ?_
      rintro e w3 ⟨D, rfl, hD, b3⟩
      have HX3 := Lib.hid (HX2.out.below b3 HX2.out.lt)
      have HB3 := Lib.hid (HB2.out.trans (b3.mono HB2.out.size))
      have HT3 := Lib.hid (HT2.out.below b3)
      have HU3 := Lib.hid ((HU2.out.below b3).more b3.size)
      have cD := hD 9 nm hna
      have lD := World.block_lt_of_cell? _ _ cD
      simp only at lD
      clear b3 hD hna
      go_wp2_with fail
      refine hK.out _ _ (HX3.out.cell' rfl) (fun hS1 => ?_)
      clear hK K
      try simp only [Act.put, List.setIfInBounds_toArray, List.set_cons_zero, List.set_cons_succ]
      refine wpAnyH_take (i := 3) (oi := { dst := some 17, op := .indexAddr 23 (.tmp 14) (.tmp 16), type := _, pos := _, after := _, guard := _ }) (v := .pointer (some ⟨D, 9, none⟩)) rfl (by kernel_rfl) (by kernel_rfl) (by kernel_rfl) (fun _ _ _ h => h) (Or.inl ⟨by rfl, ?_⟩) hS1 ?_
      · intro w' hSw
        go_simp
      try simp only [Act.put, List.setIfInBounds_toArray, List.set_cons_zero, List.set_cons_succ]
      refine wpAnyH_ready (rs := [4]) (by kernel_rfl) (by simp) ?_
      refine AllReadyH.cons (o := { dst := some 18, op := .load 9 (.tmp 17), type := _, pos := _, after := _, guard := _ }) rfl (fun K hK => ?_) AllReadyH.nil
      go_simp
      refine hK.out _ _ (HX3.out.cell' rfl) (fun hS2 => ?_)
      clear hK K
      try simp only [Act.put, List.setIfInBounds_toArray, List.set_cons_zero, List.set_cons_succ]
      refine wpAnyH_take (i := 5) (oi := { dst := some 3, op := .assign (.tmp 18), type := _, pos := _, after := _, guard := _ }) (v := .string nm) rfl (by kernel_rfl) (by kernel_rfl) (by kernel_rfl) (fun _ _ _ h => h) (Or.inl ⟨by rfl, ?_⟩) hS2 ?_
      · intro w' hSw
        go_simp
      try simp only [Act.put, List.setIfInBounds_toArray, List.set_cons_zero, List.set_cons_succ]
      refine wpAnyH_done (by kernel_rfl) ?_ _
      clear x0 x1 x2 x3 x4 x5 x6 lx cD
      have x0 : w3.cell? ⟨w.heap.size, 0, none⟩ = some (.int .i64 9) := HX3.out.cell' rfl
      have x1 : w3.cell? ⟨w.heap.size, 1, none⟩ = some (.string user) := HX3.out.cell' rfl
      have x2 : w3.cell? ⟨w.heap.size, 2, none⟩ = some (.int .i64 id) := HX3.out.cell' rfl
      have x3 : w3.cell? ⟨w.heap.size, 3, none⟩ = some (.int .i64 st) := HX3.out.cell' rfl
      have x4 : w3.cell? ⟨w.heap.size, 4, none⟩ = some (.int .i64 pr) := HX3.out.cell' rfl
      have x5 : w3.cell? ⟨w.heap.size, 5, none⟩ = some (.int .u64 (tn : Int)) := HX3.out.cell' rfl
      have x6 : w3.cell? ⟨w.heap.size, 6, none⟩ = some (.slice A us.length c) := HX3.out.cell' rfl
      have lx := HX3.out.lt
      go_wp2_with fail
      refine (HQ.out w3 HT3.out).mono ?_
      rintro e w4 ⟨rfl, b4⟩
      have HX4 := Lib.hid (HX3.out.below b4 HX3.out.lt)
      have HB4 := Lib.hid (HB3.out.trans (b4.mono HB3.out.size))
      have HT4 := Lib.hid (HT3.out.below b4)
      have HU4 := Lib.hid ((HU3.out.below b4).more b4.size)
      clear b4 x0 x1 x2 x3 x4 x5 x6 lx
      have x0 : w4.cell? ⟨w.heap.size, 0, none⟩ = some (.int .i64 9) := HX4.out.cell' rfl
      have x1 : w4.cell? ⟨w.heap.size, 1, none⟩ = some (.string user) := HX4.out.cell' rfl
      have x2 : w4.cell? ⟨w.heap.size, 2, none⟩ = some (.int .i64 id) := HX4.out.cell' rfl
      have x3 : w4.cell? ⟨w.heap.size, 3, none⟩ = some (.int .i64 st) := HX4.out.cell' rfl
      have x4 : w4.cell? ⟨w.heap.size, 4, none⟩ = some (.int .i64 pr) := HX4.out.cell' rfl
      have x5 : w4.cell? ⟨w.heap.size, 5, none⟩ = some (.int .u64 (tn : Int)) := HX4.out.cell' rfl
      have x6 : w4.cell? ⟨w.heap.size, 6, none⟩ = some (.slice A us.length c) := HX4.out.cell' rfl
      have lx := HX4.out.lt
      go_wp2_with fail
      go_ret
      exact ⟨rfl, HB4.out⟩
  · have hbl : lineB ⟨kind, user, id, st, pr, (tn : Int), A, c, us⟩ = ⟨#[98, 97, 100]⟩ := by
      unfold lineB
      simp only
      rw [if_neg (by omega), if_neg (by omega), if_neg (by omega), if_neg (by omega), if_neg (by omega), if_neg (by omega)]
    rw [hbl]
    clear hbl
    by_cases h1 : kind < 1
    · have f1 : decide (kind < 1) = true := decide_eq_true h1
      go_enter Tryd.func11, Tryd.ntmps11
      go_wp2_with fail
      go_ret
      exact ⟨rfl, HB.out⟩
    · have f1 : decide (kind < 1) = false := decide_eq_false h1
      have f9 : decide (9 < kind) = true := decide_eq_true (by omega)
      go_enter Tryd.func11, Tryd.ntmps11
      go_wp2_with fail
      go_ret
      exact ⟨rfl, HB.out⟩
end Opx
end Go.Proofs.YtjllofcfcecfbaaDoor
