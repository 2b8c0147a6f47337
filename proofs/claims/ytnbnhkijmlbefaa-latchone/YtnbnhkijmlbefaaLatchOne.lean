/-
  LatchOne: whatever the acts, the statement's function returns true, and the argument reads as before. No condition.
-/
import Derived.Test.YtnbnhkijmlbefaaLatch03
import Derived.Lib.QuietBelow
import Derived.BigQuiet
namespace Go.Proofs.Ytnbnhkijmlbefaa.latchOne
open Go.ChangeShapes Go.WideShapes Go.ChangeAt Go.RowKit
open Go.Law Go.Proofs.Ytnbnhkijmlbefaa.Lt

/-- what an act makes of a lock -/
def ac (g : Bool) (x a : Int) : Int × Bool := if g then gv x a else tk x a
theorem ac_ok {g : Bool} {x a y : Int} {b : Bool} (hx : Ok x) (h : ac g x a = (y, b)) : Ok y := by
  cases g with
  | true => have := gv_ok (a := a) hx; have h' : gv x a = (y, b) := h; rw [h'] at this; exact this
  | false => have := tk_ok (a := a) hx; have h' : tk x a = (y, b) := h; rw [h'] at this; exact this
/-- nothing done -/
theorem ac_no {g : Bool} {x a y : Int} (h : ac g x a = (y, false)) : y = x := by
  cases g with
  | true => have h' : gv x a = (y, false) := h; unfold gv at h'; split at h' <;> cases h'; rfl
  | false => have h' : tk x a = (y, false) := h; unfold tk at h'; split at h' <;> cases h'; rfl
/-- done: it was taken if it is given back, by whom, and is the other way round now -/
theorem ac_yes {g : Bool} {x a y : Int} (h : ac g x a = (y, true)) : (x != 0) = g ∧ (y != 0) = !g ∧ (g = true → x - 1 = a) ∧ (g = false → y - 1 = a) := by
  cases g with
  | true =>
    have h' : gv x a = (y, true) := h
    unfold gv at h'
    split at h'
    · rename_i h1
      cases h'
      simp at h1
      exact ⟨by simpa using h1.1, rfl, fun _ => h1.2, (fun h => by cases h)⟩
    · cases h'
  | false =>
    have h' : tk x a = (y, true) := h
    unfold tk at h'
    split at h'
    · rename_i h1
      cases h'
      simp [pr] at h1
      exact ⟨by simp [h1.1], by simp; omega, (fun h => by cases h), (fun _ => by omega)⟩
    · cases h'

set_option maxRecDepth 100000 in
set_option maxHeartbeats 3200000 in
theorem walk (A : Option Addr) (c : Nat) (l : List (Bool × Int)) (hn : l.length ≤ 400) (hI : ∀ q ∈ l, I64 q.2) (w : World) (hf : Seq w 0 w.heap.size A (l.flatMap cellsA)) :
    Calls Try.prog 4 #[.slice A l.length c] w fun e w' => e = .returned (.bool true) ∧ Below w.heap.size w w' := by
  have d0 : decide (400 < (l.length : Int)) = false := by simp; omega
  have HF := Lib.hid hf
  have HI := Lib.hid hI
  clear hf hI
  go_enter Try.func4, Try.ntmps4
  go_wp2_with fail
  refine (awake w).mono ?_
  rintro e w1 ⟨rfl, b1⟩
  have H1 := Lib.hid (Has.new 0 b1)
  clear b1
  go_wp2_with fail
  generalize w1.alloc (C 0) = w2 at *
  generalize w1.heap.size = g at *
  go_loopw [4, 5, 6] (fun hv o i wr => ∃ (k : Nat) (x u : Int) (r : Bool), k ≤ l.length ∧ i = .int .i64 k ∧ o = .int .i64 u ∧ hv = .bool r ∧ (x != 0) = r ∧ (r = true → x - 1 = u) ∧ Ok x ∧ Has w g x wr) (fun _ _ i _ => l.length - (intOf i).toNat)
  case atStart => exact ⟨0, 0, 0, false, Nat.zero_le _, rfl, rfl, rfl, rfl, (fun h => by cases h), by unfold Ok; omega, H1.out⟩
  case round =>
    clear H1
    obtain ⟨k, x, u, r, hk, rfl, rfl, rfl, hr, hu, hO, hH⟩ := hrel
    have HO := Lib.hid hO
    have HH := Lib.hid hH
    have HR := Lib.hid hr
    have HU := Lib.hid hu
    clear hO hH hr hu
    by_cases hlt : k < l.length
    · have e1 : decide ((k : Int) < (l.length : Int)) = true := by simp; omega
      obtain ⟨q, off, rfl, hq, q0, q1⟩ := act_at (HF.out.below HH.out.below) hlt
      have ha := Lib.hid (HI.out _ (List.getElem_mem hlt))
      have c0 := HH.out.c0
      have l0 := HH.out.lt
      have lq : q < wr.heap.size := block_lt_of_cell q0
      have hqg : q < g := Nat.lt_of_lt_of_le hq HH.out.ge
      generalize l[k] = z at *
      obtain ⟨gb, a⟩ := z
      simp only at q0 q1 ha
      by_cases hm : a = 9223372036854775807
      · subst hm
        go_wp2_with fail
        go_ret
        exact ⟨rfl, HH.out.below⟩
      · have dm : (a == 9223372036854775807) = false := by simpa using hm
        clear hm
        obtain ⟨y0, b0, hy0⟩ : ∃ y b, tk x a = (y, b) := ⟨_, _, rfl⟩
        have HY0 := Lib.hid hy0
        have HS : Hid (∀ w', Below wr.heap.size wr w' → w'.cell? ⟨g, 0, none⟩ = some (.int .i64 x) ∧ w'.cell? ⟨q, off + k * 2 + 1, none⟩ = some (.int .i64 a)) := fun w' hb => ⟨(hb.cell (p := ⟨g, 0, none⟩) l0).trans c0, (hb.cell (p := ⟨q, off + k * 2 + 1, none⟩) lq).trans q1⟩
        clear hy0
        go_upto_region 10 with (fail)
        go_cut [7, 8] (fun v7 v8 wx => ∃ gn : Nat, v7 = .pointer (some ⟨gn, 0, none⟩) ∧ v8 = .bool b0 ∧ wr.heap.size ≤ gn ∧ Law.Is wx gn 25 #[.int .i64 y0] ∧ Below wr.heap.size wr wx)
        case first =>
          refine wp_region_held_drew (S := fun w' => w'.cell? ⟨g, 0, none⟩ = some (.int .i64 x) ∧ w'.cell? ⟨q, off + k * 2 + 1, none⟩ = some (.int .i64 a)) (by kernel_rfl) (HS.out _ (Law.below_drewN (Below.refl _ wr) 1)) (fun hS0 => ?_)
          refine wpAnyH_take (i := 0) (oi := { dst := some 30, op := .load 25 (.tmp 3), type := _, pos := _, after := _, guard := _ }) (v := K x) rfl (by kernel_rfl) (by kernel_rfl) (by kernel_rfl) (fun _ _ _ h => h) (Or.inl ⟨by rfl, ?_⟩) hS0 ?_
          · intro w' hSw
            obtain ⟨s0, s1⟩ := hSw
            go_simp
          try simp only [Act.put, List.setIfInBounds_toArray, List.set_cons_zero, List.set_cons_succ]
          refine wpAnyH_take (i := 1) (oi := { dst := some 31, op := .move (.tmp 0), type := _, pos := _, after := _, guard := _ }) (v := .slice (some ⟨q, off, none⟩) l.length c) rfl (by kernel_rfl) (by kernel_rfl) (by kernel_rfl) (fun _ _ _ h => h) (Or.inl ⟨by rfl, ?_⟩) hS0 ?_
          · intro w' hSw
            go_simp
          try simp only [Act.put, List.setIfInBounds_toArray, List.set_cons_zero, List.set_cons_succ]
          refine wpAnyH_take (i := 2) (oi := { dst := some 32, op := .move (.tmp 6), type := _, pos := _, after := _, guard := _ }) (v := .int .i64 (k : Int)) rfl (by kernel_rfl) (by kernel_rfl) (by kernel_rfl) (fun _ _ _ h => h) (Or.inl ⟨by rfl, ?_⟩) hS0 ?_
          · intro w' hSw
            go_simp
          try simp only [Act.put, List.setIfInBounds_toArray, List.set_cons_zero, List.set_cons_succ]
          refine wpAnyH_take (i := 3) (oi := { dst := some 33, op := .indexAddr 22 (.tmp 31) (.tmp 32), type := _, pos := _, after := _, guard := _ }) (v := .pointer (some ⟨q, off + k * 2, none⟩)) rfl (by kernel_rfl) (by kernel_rfl) (by kernel_rfl) (fun _ _ _ h => h) (Or.inl ⟨by rfl, ?_⟩) hS0 ?_
          · intro w' hSw
            go_simp; (try (intro h8; omega))
          try simp only [Act.put, List.setIfInBounds_toArray, List.set_cons_zero, List.set_cons_succ]
          refine wpAnyH_take (i := 4) (oi := { dst := some 34, op := .fieldAddr 27 (.tmp 33) 1, type := _, pos := _, after := _, guard := _ }) (v := .pointer (some ⟨q, off + k * 2 + 1, none⟩)) rfl (by kernel_rfl) (by kernel_rfl) (by kernel_rfl) (fun _ _ _ h => h) (Or.inl ⟨by rfl, ?_⟩) hS0 ?_
          · intro w' hSw
            go_simp
          try simp only [Act.put, List.setIfInBounds_toArray, List.set_cons_zero, List.set_cons_succ]
          refine wpAnyH_take (i := 5) (oi := { dst := some 35, op := .load 3 (.tmp 34), type := _, pos := _, after := _, guard := _ }) (v := .int .i64 a) rfl (by kernel_rfl) (by kernel_rfl) (by kernel_rfl) (fun _ _ _ h => h) (Or.inl ⟨by rfl, ?_⟩) hS0 ?_
          · intro w' hSw
            obtain ⟨s0, s1⟩ := hSw
            go_simp
          try simp only [Act.put, List.setIfInBounds_toArray, List.set_cons_zero, List.set_cons_succ]
          refine wpAnyH_ready (rs := [6, 10]) (by kernel_rfl) (by simp) ?_
          refine AllReadyH.cons (o := { dst := some 36, op := .call { callee := .value (.func 11), args := #[.tmp 30, .tmp 35], argTypes := _ }, type := _, pos := _, after := _, guard := _ }) rfl (fun K' hK => ?_) ?_
          · go_simp
            refine Calls.mono (take1 x a y0 b0 HY0.out _) ?_
            rintro e w5 ⟨rfl, b1⟩
            have b2 : Below wr.heap.size wr w5 := Below.trans (Law.below_drewN (Below.refl _ wr) 1) (Below.mono b1 (Nat.le_refl _))
            go_wp2_with fail
            refine hK.out _ _ (HS.out _ b2) (fun hS1 => ?_)
            clear hK K'
            try simp only [Act.put, List.setIfInBounds_toArray, List.set_cons_zero, List.set_cons_succ]
            refine wpAnyH_take (i := 7) (oi := { dst := some 29, op := .move (.tmp 36), type := _, pos := _, after := _, guard := _ }) (v := .tuple #[K y0, .bool b0]) rfl (by kernel_rfl) (by kernel_rfl) (by kernel_rfl) (fun _ _ _ h => h) (Or.inl ⟨by rfl, ?_⟩) hS1 ?_
            · intro w' hSw
              go_simp
            try simp only [Act.put, List.setIfInBounds_toArray, List.set_cons_zero, List.set_cons_succ]
            refine wpAnyH_take (i := 8) (oi := { dst := some 37, op := .extract (.tmp 29) 0, type := _, pos := _, after := _, guard := _ }) (v := K y0) rfl (by kernel_rfl) (by kernel_rfl) (by kernel_rfl) (fun _ _ _ h => h) (Or.inl ⟨by rfl, ?_⟩) hS1 ?_
            · intro w' hSw
              go_simp
            try simp only [Act.put, List.setIfInBounds_toArray, List.set_cons_zero, List.set_cons_succ]
            refine wpAnyH_take (i := 9) (oi := { dst := some 38, op := .extract (.tmp 29) 1, type := _, pos := _, after := _, guard := _ }) (v := .bool b0) rfl (by kernel_rfl) (by kernel_rfl) (by kernel_rfl) (fun _ _ _ h => h) (Or.inl ⟨by rfl, ?_⟩) hS1 ?_
            · intro w' hSw
              go_simp
            try simp only [Act.put, List.setIfInBounds_toArray, List.set_cons_zero, List.set_cons_succ]
            refine wpAnyH_ready (rs := [10]) (by kernel_rfl) (by simp) ?_
            refine AllReadyH.cons (o := { dst := some 7, op := .alloc 25, type := _, pos := _, after := _, guard := _ }) rfl (fun K' hK => ?_) AllReadyH.nil
            go_simp
            have ba := (Below.refl w5.heap.size w5).alloc (Nat.le_refl _) (C 0)
            have HBn := Lib.hid (b2.trans (ba.mono b2.size))
            have HIn := Lib.hid (Law.Is.new w5 25 #[.int .i64 0] rfl)
            have nf : wr.heap.size ≤ w5.heap.size := b2.size
            refine hK.out _ _ (HS.out _ HBn.out) (fun hS2 => ?_)
            clear hK K'
            try simp only [Act.put, List.setIfInBounds_toArray, List.set_cons_zero, List.set_cons_succ]
            generalize w5.alloc (C 0) = w6 at *
            have c80 : w6.cell? ⟨w5.heap.size, 0, none⟩ = some (.int .i64 0) := HIn.out.cell' rfl
            have f80 := HIn.out.frozen 0
            have l80 := HIn.out.lt
            have HIz := Lib.hid (HIn.out.set 0 (.int .i64 y0) rfl)
            have HBz := Lib.hid (HBn.out.setCell (p := ⟨w5.heap.size, 0, none⟩) nf (.int .i64 y0))
            refine wpAnyH_ready (rs := [11]) (by kernel_rfl) (by simp) ?_
            refine AllReadyH.cons (o := { dst := none, op := .store 25 (.tmp 7) (.tmp 37), type := _, pos := _, after := _, guard := _ }) rfl (fun K' hK => ?_) AllReadyH.nil
            go_simp
            refine hK.out _ _ (HS.out _ HBz.out) (fun hS9 => ?_)
            clear hK K'
            try simp only [Act.put, List.setIfInBounds_toArray, List.set_cons_zero, List.set_cons_succ]
            refine wpAnyH_take (i := 12) (oi := { dst := some 8, op := .assign (.tmp 38), type := _, pos := _, after := _, guard := _ }) (v := .bool b0) rfl (by kernel_rfl) (by kernel_rfl) (by kernel_rfl) (fun _ _ _ h => h) (Or.inl ⟨by rfl, ?_⟩) hS9 ?_
            · intro w' hSw
              go_simp
            try simp only [Act.put, List.setIfInBounds_toArray, List.set_cons_zero, List.set_cons_succ]
            refine wpAnyH_done (by kernel_rfl) ?_ _
            clear c80 f80 l80 HIn HBn hS9
            generalize w6.setCell ⟨w5.heap.size, 0, none⟩ (.int .i64 y0) = w7 at *
            go_wp2_with fail
            go_meet
            exact ⟨_, rfl, rfl, nf, HIz.out, HBz.out⟩
          · refine AllReadyH.cons (o := { dst := some 7, op := .alloc 25, type := _, pos := _, after := _, guard := _ }) rfl (fun K' hK => ?_) AllReadyH.nil
            go_simp
            have ba : Below wr.heap.size wr (wr.alloc (C 0)).drew := Law.below_drewN ((Below.refl wr.heap.size wr).alloc (Nat.le_refl _) (C 0)) 1
            have HI4 : Hid (Law.Is (wr.alloc (C 0)).drew wr.heap.size 25 #[.int .i64 0]) := (Law.Is.new wr 25 #[.int .i64 0] rfl).drewN 1
            refine hK.out _ _ (HS.out _ ba) (fun hS2 => ?_)
            clear hK K'
            try simp only [Act.put, List.setIfInBounds_toArray, List.set_cons_zero, List.set_cons_succ]
            generalize (wr.alloc (C 0)).drew = w4 at *
            refine wpAnyH_ready (rs := [6]) (by kernel_rfl) (by simp) ?_
            refine AllReadyH.cons (o := { dst := some 36, op := .call { callee := .value (.func 11), args := #[.tmp 30, .tmp 35], argTypes := _ }, type := _, pos := _, after := _, guard := _ }) rfl (fun K' hK => ?_) AllReadyH.nil
            go_simp
            refine Calls.mono (take1 x a y0 b0 HY0.out _) ?_
            rintro e w5 ⟨rfl, b1⟩
            have HBn := Lib.hid (ba.trans (Below.mono b1 ba.size))
            have HIn := Lib.hid (HI4.out.below b1 HI4.out.lt)
            have nf : wr.heap.size ≤ wr.heap.size := Nat.le_refl _
            go_wp2_with fail
            refine hK.out _ _ (HS.out _ HBn.out) (fun hS1 => ?_)
            clear hK K'
            try simp only [Act.put, List.setIfInBounds_toArray, List.set_cons_zero, List.set_cons_succ]
            refine wpAnyH_take (i := 7) (oi := { dst := some 29, op := .move (.tmp 36), type := _, pos := _, after := _, guard := _ }) (v := .tuple #[K y0, .bool b0]) rfl (by kernel_rfl) (by kernel_rfl) (by kernel_rfl) (fun _ _ _ h => h) (Or.inl ⟨by rfl, ?_⟩) hS1 ?_
            · intro w' hSw
              go_simp
            try simp only [Act.put, List.setIfInBounds_toArray, List.set_cons_zero, List.set_cons_succ]
            refine wpAnyH_take (i := 8) (oi := { dst := some 37, op := .extract (.tmp 29) 0, type := _, pos := _, after := _, guard := _ }) (v := K y0) rfl (by kernel_rfl) (by kernel_rfl) (by kernel_rfl) (fun _ _ _ h => h) (Or.inl ⟨by rfl, ?_⟩) hS1 ?_
            · intro w' hSw
              go_simp
            try simp only [Act.put, List.setIfInBounds_toArray, List.set_cons_zero, List.set_cons_succ]
            refine wpAnyH_take (i := 9) (oi := { dst := some 38, op := .extract (.tmp 29) 1, type := _, pos := _, after := _, guard := _ }) (v := .bool b0) rfl (by kernel_rfl) (by kernel_rfl) (by kernel_rfl) (fun _ _ _ h => h) (Or.inl ⟨by rfl, ?_⟩) hS1 ?_
            · intro w' hSw
              go_simp
            try simp only [Act.put, List.setIfInBounds_toArray, List.set_cons_zero, List.set_cons_succ]
            have c80 : w5.cell? ⟨wr.heap.size, 0, none⟩ = some (.int .i64 0) := HIn.out.cell' rfl
            have f80 := HIn.out.frozen 0
            have l80 := HIn.out.lt
            have HIz := Lib.hid (HIn.out.set 0 (.int .i64 y0) rfl)
            have HBz := Lib.hid (HBn.out.setCell (p := ⟨wr.heap.size, 0, none⟩) nf (.int .i64 y0))
            refine wpAnyH_ready (rs := [11]) (by kernel_rfl) (by simp) ?_
            refine AllReadyH.cons (o := { dst := none, op := .store 25 (.tmp 7) (.tmp 37), type := _, pos := _, after := _, guard := _ }) rfl (fun K' hK => ?_) AllReadyH.nil
            go_simp
            refine hK.out _ _ (HS.out _ HBz.out) (fun hS9 => ?_)
            clear hK K'
            try simp only [Act.put, List.setIfInBounds_toArray, List.set_cons_zero, List.set_cons_succ]
            refine wpAnyH_take (i := 12) (oi := { dst := some 8, op := .assign (.tmp 38), type := _, pos := _, after := _, guard := _ }) (v := .bool b0) rfl (by kernel_rfl) (by kernel_rfl) (by kernel_rfl) (fun _ _ _ h => h) (Or.inl ⟨by rfl, ?_⟩) hS9 ?_
            · intro w' hSw
              go_simp
            try simp only [Act.put, List.setIfInBounds_toArray, List.set_cons_zero, List.set_cons_succ]
            refine wpAnyH_done (by kernel_rfl) ?_ _
            clear c80 f80 l80 HIn HBn hS9
            generalize w5.setCell ⟨wr.heap.size, 0, none⟩ (.int .i64 y0) = w7 at *
            go_wp2_with fail
            go_meet
            exact ⟨_, rfl, rfl, nf, HIz.out, HBz.out⟩
        case rest =>
          obtain ⟨gn, rfl, rfl, hgn, hin, hbx⟩ := hcut
          have HX := Lib.hid (HH.out.next hbx)
          have HY1 := Lib.hid hin
          have HB1 := Lib.hid hbx
          have hgg : g ≠ gn := by omega
          have hqn : q ≠ gn := by omega
          have c1 := HX.out.c0
          have q2 := (hbx.cell (p := ⟨q, off + k * 2, none⟩) lq).trans q0
          have q3 := (hbx.cell (p := ⟨q, off + k * 2 + 1, none⟩) lq).trans q1
          have l1 := HX.out.lt
          have lq1 : q < wc.heap.size := Nat.lt_of_lt_of_le lq hbx.size
          have hwn : w.heap.size ≤ gn := Nat.le_trans HH.out.below.size hgn
          clear hin hbx c0 l0 q0 q1 lq HS
          obtain ⟨y, b, hy⟩ : ∃ y b, ac gb x a = (y, b) := ⟨_, _, rfl⟩
          have HY := Lib.hid hy
          clear hy
          go_upto_if 43 with (fail)
          go_cut [8] (fun v8 wx => v8 = .bool b ∧ Law.Is wx gn 25 #[.int .i64 y] ∧ Has w g x wx ∧ wx.cell? ⟨q, off + k * 2, none⟩ = some (.bool gb) ∧ wx.cell? ⟨q, off + k * 2 + 1, none⟩ = some (.int .i64 a))
          case first =>
            cases gb with
            | true =>
              have HG : Hid (gv x a = (y, b)) := HY.out
              have HS : Hid (∀ w', Below wc.heap.size wc w' → w'.cell? ⟨g, 0, none⟩ = some (.int .i64 x) ∧ w'.cell? ⟨q, off + k * 2, none⟩ = some (.bool true) ∧ w'.cell? ⟨q, off + k * 2 + 1, none⟩ = some (.int .i64 a)) := fun w' hb => ⟨(hb.cell (p := ⟨g, 0, none⟩) l1).trans c1, (hb.cell (p := ⟨q, off + k * 2, none⟩) lq1).trans q2, (hb.cell (p := ⟨q, off + k * 2 + 1, none⟩) lq1).trans q3⟩
              go_wp2_with fail
              refine wp_region_held_drew (S := fun w' => w'.cell? ⟨g, 0, none⟩ = some (.int .i64 x) ∧ w'.cell? ⟨q, off + k * 2, none⟩ = some (.bool true) ∧ w'.cell? ⟨q, off + k * 2 + 1, none⟩ = some (.int .i64 a)) (by kernel_rfl) (HS.out _ (Law.below_drewN (Below.refl _ wc) 1)) (fun hS0 => ?_)
              refine wpAnyH_take (i := 0) (oi := { dst := some 45, op := .load 25 (.tmp 3), type := _, pos := _, after := _, guard := _ }) (v := K x) rfl (by kernel_rfl) (by kernel_rfl) (by kernel_rfl) (fun _ _ _ h => h) (Or.inl ⟨by rfl, ?_⟩) hS0 ?_
              · intro w' hSw
                obtain ⟨s0, s1, s2⟩ := hSw
                go_simp
              try simp only [Act.put, List.setIfInBounds_toArray, List.set_cons_zero, List.set_cons_succ]
              refine wpAnyH_take (i := 1) (oi := { dst := some 46, op := .move (.tmp 0), type := _, pos := _, after := _, guard := _ }) (v := .slice (some ⟨q, off, none⟩) l.length c) rfl (by kernel_rfl) (by kernel_rfl) (by kernel_rfl) (fun _ _ _ h => h) (Or.inl ⟨by rfl, ?_⟩) hS0 ?_
              · intro w' hSw
                go_simp
              try simp only [Act.put, List.setIfInBounds_toArray, List.set_cons_zero, List.set_cons_succ]
              refine wpAnyH_take (i := 2) (oi := { dst := some 47, op := .move (.tmp 6), type := _, pos := _, after := _, guard := _ }) (v := .int .i64 (k : Int)) rfl (by kernel_rfl) (by kernel_rfl) (by kernel_rfl) (fun _ _ _ h => h) (Or.inl ⟨by rfl, ?_⟩) hS0 ?_
              · intro w' hSw
                go_simp
              try simp only [Act.put, List.setIfInBounds_toArray, List.set_cons_zero, List.set_cons_succ]
              refine wpAnyH_take (i := 3) (oi := { dst := some 48, op := .indexAddr 22 (.tmp 46) (.tmp 47), type := _, pos := _, after := _, guard := _ }) (v := .pointer (some ⟨q, off + k * 2, none⟩)) rfl (by kernel_rfl) (by kernel_rfl) (by kernel_rfl) (fun _ _ _ h => h) (Or.inl ⟨by rfl, ?_⟩) hS0 ?_
              · intro w' hSw
                go_simp; (try (intro h8; omega))
              try simp only [Act.put, List.setIfInBounds_toArray, List.set_cons_zero, List.set_cons_succ]
              refine wpAnyH_take (i := 4) (oi := { dst := some 49, op := .fieldAddr 27 (.tmp 48) 1, type := _, pos := _, after := _, guard := _ }) (v := .pointer (some ⟨q, off + k * 2 + 1, none⟩)) rfl (by kernel_rfl) (by kernel_rfl) (by kernel_rfl) (fun _ _ _ h => h) (Or.inl ⟨by rfl, ?_⟩) hS0 ?_
              · intro w' hSw
                go_simp
              try simp only [Act.put, List.setIfInBounds_toArray, List.set_cons_zero, List.set_cons_succ]
              refine wpAnyH_take (i := 5) (oi := { dst := some 50, op := .load 3 (.tmp 49), type := _, pos := _, after := _, guard := _ }) (v := .int .i64 a) rfl (by kernel_rfl) (by kernel_rfl) (by kernel_rfl) (fun _ _ _ h => h) (Or.inl ⟨by rfl, ?_⟩) hS0 ?_
              · intro w' hSw
                obtain ⟨s0, s1, s2⟩ := hSw
                go_simp
              try simp only [Act.put, List.setIfInBounds_toArray, List.set_cons_zero, List.set_cons_succ]
              refine wpAnyH_ready (rs := [6]) (by kernel_rfl) (by simp) ?_
              refine AllReadyH.cons (o := { dst := some 51, op := .call { callee := .value (.func 9), args := #[.tmp 45, .tmp 50], argTypes := _ }, type := _, pos := _, after := _, guard := _ }) rfl (fun K hK => ?_) AllReadyH.nil
              go_simp
              refine Calls.mono (give1 x a HO.out y b HG.out _) ?_
              rintro e w5 ⟨rfl, b5⟩
              have b6 : Below wc.heap.size wc w5 := Below.trans (Law.below_drewN (Below.refl _ wc) 1) (Below.mono b5 (Nat.le_refl _))
              go_wp2_with fail
              refine hK.out _ _ (HS.out _ b6) (fun hS1 => ?_)
              clear hK K
              try simp only [Act.put, List.setIfInBounds_toArray, List.set_cons_zero, List.set_cons_succ]
              refine wpAnyH_take (i := 7) (oi := { dst := some 44, op := .move (.tmp 51), type := _, pos := _, after := _, guard := _ }) (v := .tuple #[K y, .bool b]) rfl (by kernel_rfl) (by kernel_rfl) (by kernel_rfl) (fun _ _ _ h => h) (Or.inl ⟨by rfl, ?_⟩) hS1 ?_
              · intro w' hSw
                go_simp
              try simp only [Act.put, List.setIfInBounds_toArray, List.set_cons_zero, List.set_cons_succ]
              refine wpAnyH_take (i := 8) (oi := { dst := some 52, op := .extract (.tmp 44) 0, type := _, pos := _, after := _, guard := _ }) (v := K y) rfl (by kernel_rfl) (by kernel_rfl) (by kernel_rfl) (fun _ _ _ h => h) (Or.inl ⟨by rfl, ?_⟩) hS1 ?_
              · intro w' hSw
                go_simp
              try simp only [Act.put, List.setIfInBounds_toArray, List.set_cons_zero, List.set_cons_succ]
              refine wpAnyH_take (i := 9) (oi := { dst := some 53, op := .extract (.tmp 44) 1, type := _, pos := _, after := _, guard := _ }) (v := .bool b) rfl (by kernel_rfl) (by kernel_rfl) (by kernel_rfl) (fun _ _ _ h => h) (Or.inl ⟨by rfl, ?_⟩) hS1 ?_
              · intro w' hSw
                go_simp
              try simp only [Act.put, List.setIfInBounds_toArray, List.set_cons_zero, List.set_cons_succ]
              have HN5 := Lib.hid (HY1.out.below b6 HY1.out.lt)
              have n5 := HN5.out.cell' (i := 0) rfl
              have f5 := HN5.out.frozen 0
              have l5 := HN5.out.lt
              have HZ5 := Lib.hid (HX.out.next b6)
              have HN6 := Lib.hid (HN5.out.set 0 (.int .i64 y) rfl)
              have HZ6 : Hid (Has w g x (w5.setCell ⟨gn, 0, none⟩ (.int .i64 y))) := ⟨HZ5.out.is.far (p := ⟨gn, 0, none⟩) hgg _, HZ5.out.below.setCell (p := ⟨gn, 0, none⟩) hwn _, HZ5.out.ge⟩
              refine wpAnyH_ready (rs := [10]) (by kernel_rfl) (by simp) ?_
              refine AllReadyH.cons (o := { dst := none, op := .store 25 (.tmp 7) (.tmp 52), type := _, pos := _, after := _, guard := _ }) rfl (fun K hK => ?_) AllReadyH.nil
              go_simp
              refine hK.out _ _ ⟨(World.cell?_setCell_far _ _ _ _ (fun e => hgg e.symm)).trans hS1.1, (World.cell?_setCell_far _ _ _ _ (fun e => hqn e.symm)).trans hS1.2.1, (World.cell?_setCell_far _ _ _ _ (fun e => hqn e.symm)).trans hS1.2.2⟩ (fun hS3 => ?_)
              clear hK K
              try simp only [Act.put, List.setIfInBounds_toArray, List.set_cons_zero, List.set_cons_succ]
              refine wpAnyH_take (i := 11) (oi := { dst := some 8, op := .assign (.tmp 53), type := _, pos := _, after := _, guard := _ }) (v := .bool b) rfl (by kernel_rfl) (by kernel_rfl) (by kernel_rfl) (fun _ _ _ h => h) (Or.inl ⟨by rfl, ?_⟩) hS3 ?_
              · intro w' hSw
                go_simp
              try simp only [Act.put, List.setIfInBounds_toArray, List.set_cons_zero, List.set_cons_succ]
              refine wpAnyH_done (by kernel_rfl) ?_ _
              go_wp2_with fail
              go_meet
              exact ⟨rfl, HN6.out, HZ6.out, hS3.2.1, hS3.2.2⟩
            | false =>
              have HG : Hid (tk x a = (y, b)) := HY.out
              obtain ⟨rfl, rfl⟩ : y0 = y ∧ b0 = b := by have h1 := HY0.out; rw [HG.out] at h1; cases h1; exact ⟨rfl, rfl⟩
              go_wp2_with fail
              go_meet
              exact ⟨rfl, HY1.out, HX.out, q2, q3⟩
          case rest =>
            obtain ⟨rfl, hin, hhx, q4, q5⟩ := hcut
            have HN := Lib.hid hin
            have HX2 := Lib.hid hhx
            clear hin hhx HX HY1 HB1 c1 q2 q3 l1 lq1 HY0 HH
            have HOY := Lib.hid (ac_ok HO.out HY.out)
            have c2 := HX2.out.c0
            have l2 := HX2.out.lt
            have n2 : wc.cell? ⟨gn, 0, none⟩ = some (.int .i64 y) := HN.out.cell' rfl
            have m2 := HN.out.lt
            have lq2 : q < wc.heap.size := block_lt_of_cell q4
            have f2 := HX2.out.is.frozen 0
            cases b with
            | false =>
              obtain rfl := ac_no HY.out
              have hz : ∃ o : Int, y - 1 = o := ⟨_, rfl⟩
              obtain ⟨o, hz⟩ := hz
              have HZ := Lib.hid hz
              clear hz
              have d2 : (o != o) = false := by simp
              have r0 := cell_regrown c2
              have r1 := cell_regrown n2
              go_wp2_with fail
              refine wp_region_quiet_below (by kernel_rfl) (by kernel_rfl) ?_
              repeat (quiet_step (first
                | (go_at_call 13; exact Calls.regrown_of (ownerB y HO.out o HZ.out _))))
              refine wpQuiet_nil ?_
              intro _ hw'
              obtain ⟨⟨nq, osq⟩, hw''⟩ := hw'
              subst hw''
              have Kz := below_regrown wc nq osq
              have H8 := Lib.hid (HX2.out.next Kz)
              have N8 := Lib.hid (HN.out.below Kz HN.out.lt)
              have q8 := (Kz.cell (p := ⟨q, off + k * 2, none⟩) lq2).trans q4
              have q9 := (Kz.cell (p := ⟨q, off + k * 2 + 1, none⟩) lq2).trans q5
              clear Kz r0 r1 c2 l2 n2 m2 f2 lq2 q4 q5
              generalize Go.Sort.grow (redrawn wc nq) osq = w8 at *
              have c8 := H8.out.c0
              have l8 := H8.out.lt
              have f8 := H8.out.is.frozen 0
              have n8 : w8.cell? ⟨gn, 0, none⟩ = some (.int .i64 y) := N8.out.cell' rfl
              have m8 := N8.out.lt
              have lq8 : q < w8.heap.size := block_lt_of_cell q8
              have H9 := Lib.hid (H8.out.put y)
              go_wp2_with fail
              go_roundw
              case rel => exact ⟨k + 1, y, u, r, by omega, by go_num, rfl, rfl, HR.out, HU.out, HO.out, H9.out⟩
              case measure => simp [intOf]; omega
            | true =>
              obtain ⟨hy1, hy2, hy3, hy4⟩ := ac_yes HY.out
              obtain rfl : r = gb := HR.out.symm.trans hy1
              have HY2 := Lib.hid hy2
              have HY4 := Lib.hid hy4
              have hua := fun h => (HU.out h).symm.trans (hy3 h)
              clear hy1 hy2 hy3 hy4
              have HZ2 := Lib.hid (HX2.out.drewN 1)
              go_wp2_with fail
              go_quiet (fail)
              cases r with
              | true =>
                obtain rfl := hua rfl
                have d2 : (u != u) = false := by simp
                clear hua
                go_wp2_with fail
                go_quiet (fail)
                go_wp2_with fail
                go_roundw
                case rel => exact ⟨k + 1, y, u, false, by omega, by go_num, rfl, rfl, HY2.out, (fun h => by cases h), HOY.out, (HX2.out.drewN _).put y⟩
                case measure => simp [intOf]; omega
              | false =>
                clear hua
                go_wp2_with fail
                go_quiet (fail)
                go_wp2_with fail
                go_roundw
                case rel => exact ⟨k + 1, y, a, true, by omega, by go_num, rfl, rfl, HY2.out, (fun _ => HY4.out trivial), HOY.out, (HX2.out.drewN _).put y⟩
                case measure => simp [intOf]; omega
    · have e1 : decide ((k : Int) < (l.length : Int)) = false := by simp; omega
      have c0 := HH.out.c0
      have l0 := HH.out.lt
      obtain ⟨z, hz⟩ : ∃ z, (x == 0) = z := ⟨_, rfl⟩
      have dr : (z == r) = false := by rw [← HR.out, ← hz, bne]; cases x == 0 <;> rfl
      have HZ := Lib.hid hz
      clear hz
      go_wp2_with fail
      refine (freeB x z HZ.out _).mono ?_
      rintro e w9 ⟨rfl, b9⟩
      have H9 := Lib.hid (HH.out.next b9)
      clear b9 c0 l0
      go_wp2_with fail
      go_ret
      exact ⟨rfl, H9.out.below⟩

theorem walkLong (A : Option Addr) (n c : Nat) (hn : 400 < n) (w : World) :
    Calls Try.prog 4 #[.slice A n c] w fun e w' => e = .returned (.bool true) ∧ Below w.heap.size w w' := by
  have d0 : decide (400 < (n : Int)) = true := by simp; omega
  go_enter Try.func4, Try.ntmps4
  go_wp2_with fail
  refine (awake w).mono ?_
  rintro e w1 ⟨rfl, b1⟩
  have HB := Lib.hid b1
  clear b1
  go_wp2_with fail
  refine (awake _).mono ?_
  rintro e w2 ⟨rfl, b2⟩
  have HB2 := Lib.hid (HB.out.trans (b2.mono HB.out.size))
  clear b2
  go_wp2_with fail
  go_ret
  exact ⟨rfl, HB2.out⟩

theorem walk0 (A : Option Addr) (c : Nat) (l : List (Bool × Int)) (hI : ∀ q ∈ l, I64 q.2) (w : World) (hf : Seq w 0 w.heap.size A (l.flatMap cellsA)) :
    Calls Try.prog 4 #[.slice A l.length c] w fun e w' => e = .returned (.bool true) ∧ Below w.heap.size w w' := by
  by_cases h : l.length ≤ 400
  · exact walk A c l h hI w hf
  · exact walkLong A _ c (by omega) w

set_option maxRecDepth 100000 in
theorem lifted (os : Os) (started : os.Started) (H : Type) (enc : TypeId × Value → H) :
    ReturnsInHanded {} Try.checked os 4 .any (Rows.latchOneSpec.pre6 enc Try.prog Try.f4 Rows.latchOneRow.domain false) (Rows.latchOneSpec.post enc Try.prog Try.f4 false true false false) := by
  refine returnsInHanded_of_change (C := Try.checked) own started (by kernel_rfl) Try.func4
    (ChangeSpec.witness6 (enc := enc) (C := Try.checked) false ⟨#[], #[.slice none 0 0], []⟩ 8 (by kernel_rfl) (by kernel_rfl) (by kernel_rfl) (by kernel_rfl)) ?_
  intro W base args ds gs before hval0 hW hcnd _
  have hval : ∀ (j : Nat) t v, Try.f4.params[j]? = some t → args[j]? = some v → Value.okWide Try.prog W .any base t v := hval0
  have hW' := hW
  obtain ⟨p, q, hA0, hV, rfl, hfz, hnd⟩ := hW
  have hA : DataW.TrodAll enc Try.prog W 0 (fun _ => true) true Try.f4.params.toList args.toList ds p := hA0
  rw [Try.params4] at hA hval
  obtain ⟨v0, vs0, d0, ds0, p0, q0, hargs, rfl, rfl, h0, r0⟩ := trodAll_cons hA
  obtain ⟨rfl, rfl, rfl⟩ := trodAll_nil r0
  obtain rfl : args = #[v0] := by cases args; simp_all
  obtain ⟨A, c, l, rfl, hf, hl, hI⟩ := open_acts (hval 0 22 v0 rfl rfl) h0
  refine (walk0 A c l hI W hf).mono fun e W' ⟨he, bel⟩ => ?_
  subst he
  exact ⟨_, rfl, Law.post_law laidOut (by kernel_rfl) (by kernel_rfl) Try.underlying4 rfl (fun ds h => by match ds, h with | [_], _ => rfl) hW' bel⟩

theorem proved : Rows.LatchOneSaid :=
  OpenClaim.holds_of_wide 4 Try.f4 rfl rfl rfl rfl rfl rfl rfl ⟨rfl, rfl, rfl, rfl, rfl⟩ rfl rfl rfl rfl rfl (by kernel_rfl) Try.func4 (by kernel_rfl)
    (of_decide_eq_true (by kernel_rfl)) (by unfold Func.isWrapper; rw [if_neg (by decide +kernel)]; exact ⟨rfl, rfl⟩)
    (fun os started H enc _ => lifted os started H enc)
#print axioms proved
end Go.Proofs.Ytnbnhkijmlbefaa.latchOne
