/-
  LatchFirst: whoever asks, the statement's function returns true, and the argument reads as before. No condition.
-/
import Derived.Test.YtnbnhkijmlbefaaLatch03
import Derived.Test.YtnbnhkijmlbefaaNums
import Derived.Lib.QuietBelow
import Derived.BigQuiet
namespace Go.Proofs.Ytnbnhkijmlbefaa.latchFirst
open Go.ChangeShapes Go.WideShapes Go.ChangeAt Go.RowKit
open Go.Law Go.Proofs.Ytnbnhkijmlbefaa.Lt
theorem bounds_u8 {a : Int} (h : (Lit.int .u8 a).wf = true) : 0 ≤ a ∧ a ≤ 255 := by simpa [Lit.wf, IntKind.min, IntKind.max, IntKind.signed, IntKind.bits] using h
/-- the lock behind the first k asked -/
def lk (l : List Int) (k : Nat) : Int := if k = 0 then 0 else l.getD 0 0 + 1
theorem lk_step {l : List Int} {k : Nat} {a : Int} (hk : k < l.length) (ha : a = l[k]) (h0 : 0 ≤ a) (h1 : a ≤ 255) (hf : 0 ≤ l.getD 0 0) : tk (lk l k) a = (lk l (k + 1), (k : Int) == 0) := by
  subst ha
  cases k with
  | zero =>
    have e : (lk l 0 == 0 && pr l[0]) = true := by simp [lk, pr]; omega
    unfold tk
    rw [if_pos e]
    simp [lk, List.getD_eq_getElem?_getD, List.getElem?_eq_getElem hk]
  | succ k =>
    have e : ¬ (lk l (k + 1) == 0 && pr l[k + 1]) = true := by simp [lk]; intro h; simp at hf; omega
    unfold tk
    rw [if_neg e]
    have : ((k : Int) + 1 == 0) = false := by simp; omega
    simp [lk, this]
theorem gv_far {x a : Int} (h : a ≠ x) : gv (x + 1) a = (x + 1, false) := if_neg (by simp; intro _ h2; exact h (by omega))
theorem gv_same {x : Int} (h : 0 ≤ x) : gv (x + 1) x = (0, true) := if_pos (by simp; omega)

set_option maxRecDepth 100000 in
set_option maxHeartbeats 3200000 in
theorem walk (A : Option Addr) (c : Nat) (l : List Int) (hn : l.length ≤ 400) (hI : ∀ z ∈ l, (Lit.int .u8 z).wf = true) (w : World) (hf : Seq w 0 w.heap.size A (l.map (.int .u8))) :
    Calls Try.prog 7 #[.slice A l.length c] w fun e w' => e = .returned (.bool true) ∧ Below w.heap.size w w' := by
  have d0 : decide (400 < (l.length : Int)) = false := by simp; omega
  have HF := Lib.hid hf
  have HI := Lib.hid hI
  have hp : 0 ≤ l.getD 0 0 := by
    cases l with
    | nil => simp
    | cons z r => simpa using (bounds_u8 (hI z (by simp))).1
  have HP := Lib.hid hp
  clear hf hI hp
  go_enter Try.func7, Try.ntmps7
  go_wp2_with fail
  refine (awake w).mono ?_
  rintro e w1 ⟨rfl, b1⟩
  have H1 := Lib.hid (Has.new 0 b1)
  clear b1
  go_wp2_with fail
  generalize w1.alloc (C 0) = w2 at *
  generalize w1.heap.size = g at *
  go_loopw [4] (fun i wr => ∃ (k : Nat), k ≤ l.length ∧ i = .int .i64 k ∧ Has w g (lk l k) wr) (fun i _ => l.length - (intOf i).toNat)
  case atStart => exact ⟨0, Nat.zero_le _, rfl, H1.out⟩
  case round =>
    clear H1
    obtain ⟨k, hk, rfl, hH⟩ := hrel
    have HH := Lib.hid hH
    clear hH
    by_cases hlt : k < l.length
    · have e1 : decide ((k : Int) < (l.length : Int)) = true := by simp; omega
      obtain ⟨q, off, rfl, _, hq, q0⟩ := (HF.out.below HH.out.below).int (i := k) hlt
      have ha := bounds_u8 (HI.out _ (List.getElem_mem hlt))
      have hst := lk_step hlt rfl ha.1 ha.2 HP.out
      generalize l[k] = a at *
      generalize lk l k = x at *
      obtain ⟨y, hy⟩ : ∃ y, lk l (k + 1) = y := ⟨_, rfl⟩
      rw [hy] at hst
      have HY := Lib.hid hy
      have HT := Lib.hid hst
      have wa : IntKind.i64.wrap a = a := by rw [IntKind.wrap_i64]; omega
      clear hy hst
      have c0 := HH.out.c0
      have l0 := HH.out.lt
      have lq : q < wr.heap.size := block_lt_of_cell q0
      have HS : Hid (∀ w', Below wr.heap.size wr w' → w'.cell? ⟨g, 0, none⟩ = some (.int .i64 x) ∧ w'.cell? ⟨q, off + k, none⟩ = some (.int .u8 a)) := fun w' hb => ⟨(hb.cell (p := ⟨g, 0, none⟩) l0).trans c0, (hb.cell (p := ⟨q, off + k, none⟩) lq).trans q0⟩
      obtain ⟨b, hb⟩ : ∃ b, ((k : Int) == 0) = b := ⟨_, rfl⟩
      rw [hb] at HT
      have e2 : (b != b) = false := by simp
      clear ha
      go_upto_region 7 with (fail)
      go_cut [5, 6] (fun v7 v8 wx => ∃ gn : Nat, v7 = .pointer (some ⟨gn, 0, none⟩) ∧ v8 = .bool b ∧ wr.heap.size ≤ gn ∧ Law.Is wx gn 25 #[.int .i64 y] ∧ Below wr.heap.size wr wx)
      case first =>
        refine wp_region_held_drew (S := fun w' => w'.cell? ⟨g, 0, none⟩ = some (.int .i64 x) ∧ w'.cell? ⟨q, off + k, none⟩ = some (.int .u8 a)) (by kernel_rfl) (HS.out _ (Law.below_drewN (Below.refl _ wr) 1)) (fun hS0 => ?_)
        refine wpAnyH_take (i := 0) (oi := { dst := some 25, op := .load 25 (.tmp 3), type := _, pos := _, after := _, guard := _ }) (v := K x) rfl (by kernel_rfl) (by kernel_rfl) (by kernel_rfl) (fun _ _ _ h => h) (Or.inl ⟨by rfl, ?_⟩) hS0 ?_
        · intro w' hSw
          obtain ⟨s0, s1⟩ := hSw
          go_simp
        try simp only [Act.put, List.setIfInBounds_toArray, List.set_cons_zero, List.set_cons_succ]
        refine wpAnyH_take (i := 1) (oi := { dst := some 26, op := .move (.tmp 0), type := _, pos := _, after := _, guard := _ }) (v := .slice (some ⟨q, off, none⟩) l.length c) rfl (by kernel_rfl) (by kernel_rfl) (by kernel_rfl) (fun _ _ _ h => h) (Or.inl ⟨by rfl, ?_⟩) hS0 ?_
        · intro w' hSw
          go_simp
        try simp only [Act.put, List.setIfInBounds_toArray, List.set_cons_zero, List.set_cons_succ]
        refine wpAnyH_take (i := 2) (oi := { dst := some 27, op := .move (.tmp 4), type := _, pos := _, after := _, guard := _ }) (v := .int .i64 (k : Int)) rfl (by kernel_rfl) (by kernel_rfl) (by kernel_rfl) (fun _ _ _ h => h) (Or.inl ⟨by rfl, ?_⟩) hS0 ?_
        · intro w' hSw
          go_simp
        try simp only [Act.put, List.setIfInBounds_toArray, List.set_cons_zero, List.set_cons_succ]
        refine wpAnyH_take (i := 3) (oi := { dst := some 28, op := .indexAddr 37 (.tmp 26) (.tmp 27), type := _, pos := _, after := _, guard := _ }) (v := .pointer (some ⟨q, off + k, none⟩)) rfl (by kernel_rfl) (by kernel_rfl) (by kernel_rfl) (fun _ _ _ h => h) (Or.inl ⟨by rfl, ?_⟩) hS0 ?_
        · intro w' hSw
          go_simp; (try (intro h8; omega))
        try simp only [Act.put, List.setIfInBounds_toArray, List.set_cons_zero, List.set_cons_succ]
        refine wpAnyH_take (i := 4) (oi := { dst := some 29, op := .load 5 (.tmp 28), type := _, pos := _, after := _, guard := _ }) (v := .int .u8 a) rfl (by kernel_rfl) (by kernel_rfl) (by kernel_rfl) (fun _ _ _ h => h) (Or.inl ⟨by rfl, ?_⟩) hS0 ?_
        · intro w' hSw
          obtain ⟨s0, s1⟩ := hSw
          go_simp
        try simp only [Act.put, List.setIfInBounds_toArray, List.set_cons_zero, List.set_cons_succ]
        refine wpAnyH_take (i := 5) (oi := { dst := some 30, op := .convert 5 3 (.tmp 29), type := _, pos := _, after := _, guard := _ }) (v := .int .i64 a) rfl (by kernel_rfl) (by kernel_rfl) (by kernel_rfl) (fun _ _ _ h => h) (Or.inl ⟨by rfl, ?_⟩) hS0 ?_
        · intro w' hSw
          go_simp
        try simp only [Act.put, List.setIfInBounds_toArray, List.set_cons_zero, List.set_cons_succ]
        refine wpAnyH_ready (rs := [6, 10]) (by kernel_rfl) (by simp) ?_
        refine AllReadyH.cons (o := { dst := some 31, op := .call { callee := .value (.func 11), args := #[.tmp 25, .tmp 30], argTypes := _ }, type := _, pos := _, after := _, guard := _ }) rfl (fun K' hK => ?_) ?_
        · go_simp
          refine Calls.mono (take1 x a y b HT.out _) ?_
          rintro e w5 ⟨rfl, b1⟩
          have b2 : Below wr.heap.size wr w5 := Below.trans (Law.below_drewN (Below.refl _ wr) 1) (Below.mono b1 (Nat.le_refl _))
          go_wp2_with fail
          refine hK.out _ _ (HS.out _ b2) (fun hS1 => ?_)
          clear hK K'
          try simp only [Act.put, List.setIfInBounds_toArray, List.set_cons_zero, List.set_cons_succ]
          refine wpAnyH_take (i := 7) (oi := { dst := some 24, op := .move (.tmp 31), type := _, pos := _, after := _, guard := _ }) (v := .tuple #[K y, .bool b]) rfl (by kernel_rfl) (by kernel_rfl) (by kernel_rfl) (fun _ _ _ h => h) (Or.inl ⟨by rfl, ?_⟩) hS1 ?_
          · intro w' hSw
            go_simp
          try simp only [Act.put, List.setIfInBounds_toArray, List.set_cons_zero, List.set_cons_succ]
          refine wpAnyH_take (i := 8) (oi := { dst := some 32, op := .extract (.tmp 24) 0, type := _, pos := _, after := _, guard := _ }) (v := K y) rfl (by kernel_rfl) (by kernel_rfl) (by kernel_rfl) (fun _ _ _ h => h) (Or.inl ⟨by rfl, ?_⟩) hS1 ?_
          · intro w' hSw
            go_simp
          try simp only [Act.put, List.setIfInBounds_toArray, List.set_cons_zero, List.set_cons_succ]
          refine wpAnyH_take (i := 9) (oi := { dst := some 33, op := .extract (.tmp 24) 1, type := _, pos := _, after := _, guard := _ }) (v := .bool b) rfl (by kernel_rfl) (by kernel_rfl) (by kernel_rfl) (fun _ _ _ h => h) (Or.inl ⟨by rfl, ?_⟩) hS1 ?_
          · intro w' hSw
            go_simp
          try simp only [Act.put, List.setIfInBounds_toArray, List.set_cons_zero, List.set_cons_succ]
          refine wpAnyH_ready (rs := [10]) (by kernel_rfl) (by simp) ?_
          refine AllReadyH.cons (o := { dst := some 5, op := .alloc 25, type := _, pos := _, after := _, guard := _ }) rfl (fun K' hK => ?_) AllReadyH.nil
          go_simp
          have ba := (Below.refl w5.heap.size w5).alloc (Nat.le_refl _) (C 0)
          have HBn := Lib.hid (b2.trans (ba.mono b2.size))
          have HIn := Lib.hid (Law.Is.new w5 25 #[.int .i64 0] rfl)
          have nf : wr.heap.size ≤ w5.heap.size := b2.size
          refine hK.out _ _ (HS.out _ HBn.out) (fun hS2 => ?_)
          clear hK K'
          try simp only [Act.put, List.setIfInBounds_toArray, List.set_cons_zero, List.set_cons_succ]
          generalize w5.alloc (C 0) = w6 at *
          have c80 : w6.cell? ⟨w5.heap.size, 0, none⟩ = some (.int .i64 0) := HIn.out.cell' rfl
          have f80 := HIn.out.frozen 0
          have l80 := HIn.out.lt
          have HIz := Lib.hid (HIn.out.set 0 (.int .i64 y) rfl)
          have HBz := Lib.hid (HBn.out.setCell (p := ⟨w5.heap.size, 0, none⟩) nf (.int .i64 y))
          refine wpAnyH_ready (rs := [11]) (by kernel_rfl) (by simp) ?_
          refine AllReadyH.cons (o := { dst := none, op := .store 25 (.tmp 5) (.tmp 32), type := _, pos := _, after := _, guard := _ }) rfl (fun K' hK => ?_) AllReadyH.nil
          go_simp
          refine hK.out _ _ (HS.out _ HBz.out) (fun hS9 => ?_)
          clear hK K'
          try simp only [Act.put, List.setIfInBounds_toArray, List.set_cons_zero, List.set_cons_succ]
          refine wpAnyH_take (i := 12) (oi := { dst := some 6, op := .assign (.tmp 33), type := _, pos := _, after := _, guard := _ }) (v := .bool b) rfl (by kernel_rfl) (by kernel_rfl) (by kernel_rfl) (fun _ _ _ h => h) (Or.inl ⟨by rfl, ?_⟩) hS9 ?_
          · intro w' hSw
            go_simp
          try simp only [Act.put, List.setIfInBounds_toArray, List.set_cons_zero, List.set_cons_succ]
          refine wpAnyH_done (by kernel_rfl) ?_ _
          clear c80 f80 l80 HIn HBn hS9
          generalize w6.setCell ⟨w5.heap.size, 0, none⟩ (.int .i64 y) = w7 at *
          go_wp2_with fail
          go_meet
          exact ⟨_, rfl, rfl, nf, HIz.out, HBz.out⟩
        · refine AllReadyH.cons (o := { dst := some 5, op := .alloc 25, type := _, pos := _, after := _, guard := _ }) rfl (fun K' hK => ?_) AllReadyH.nil
          go_simp
          have ba : Below wr.heap.size wr (wr.alloc (C 0)).drew := Law.below_drewN ((Below.refl wr.heap.size wr).alloc (Nat.le_refl _) (C 0)) 1
          have HI4 : Hid (Law.Is (wr.alloc (C 0)).drew wr.heap.size 25 #[.int .i64 0]) := (Law.Is.new wr 25 #[.int .i64 0] rfl).drewN 1
          refine hK.out _ _ (HS.out _ ba) (fun hS2 => ?_)
          clear hK K'
          try simp only [Act.put, List.setIfInBounds_toArray, List.set_cons_zero, List.set_cons_succ]
          generalize (wr.alloc (C 0)).drew = w4 at *
          refine wpAnyH_ready (rs := [6]) (by kernel_rfl) (by simp) ?_
          refine AllReadyH.cons (o := { dst := some 31, op := .call { callee := .value (.func 11), args := #[.tmp 25, .tmp 30], argTypes := _ }, type := _, pos := _, after := _, guard := _ }) rfl (fun K' hK => ?_) AllReadyH.nil
          go_simp
          refine Calls.mono (take1 x a y b HT.out _) ?_
          rintro e w5 ⟨rfl, b1⟩
          have HBn := Lib.hid (ba.trans (Below.mono b1 ba.size))
          have HIn := Lib.hid (HI4.out.below b1 HI4.out.lt)
          have nf : wr.heap.size ≤ wr.heap.size := Nat.le_refl _
          go_wp2_with fail
          refine hK.out _ _ (HS.out _ HBn.out) (fun hS1 => ?_)
          clear hK K'
          try simp only [Act.put, List.setIfInBounds_toArray, List.set_cons_zero, List.set_cons_succ]
          refine wpAnyH_take (i := 7) (oi := { dst := some 24, op := .move (.tmp 31), type := _, pos := _, after := _, guard := _ }) (v := .tuple #[K y, .bool b]) rfl (by kernel_rfl) (by kernel_rfl) (by kernel_rfl) (fun _ _ _ h => h) (Or.inl ⟨by rfl, ?_⟩) hS1 ?_
          · intro w' hSw
            go_simp
          try simp only [Act.put, List.setIfInBounds_toArray, List.set_cons_zero, List.set_cons_succ]
          refine wpAnyH_take (i := 8) (oi := { dst := some 32, op := .extract (.tmp 24) 0, type := _, pos := _, after := _, guard := _ }) (v := K y) rfl (by kernel_rfl) (by kernel_rfl) (by kernel_rfl) (fun _ _ _ h => h) (Or.inl ⟨by rfl, ?_⟩) hS1 ?_
          · intro w' hSw
            go_simp
          try simp only [Act.put, List.setIfInBounds_toArray, List.set_cons_zero, List.set_cons_succ]
          refine wpAnyH_take (i := 9) (oi := { dst := some 33, op := .extract (.tmp 24) 1, type := _, pos := _, after := _, guard := _ }) (v := .bool b) rfl (by kernel_rfl) (by kernel_rfl) (by kernel_rfl) (fun _ _ _ h => h) (Or.inl ⟨by rfl, ?_⟩) hS1 ?_
          · intro w' hSw
            go_simp
          try simp only [Act.put, List.setIfInBounds_toArray, List.set_cons_zero, List.set_cons_succ]
          have c80 : w5.cell? ⟨wr.heap.size, 0, none⟩ = some (.int .i64 0) := HIn.out.cell' rfl
          have f80 := HIn.out.frozen 0
          have l80 := HIn.out.lt
          have HIz := Lib.hid (HIn.out.set 0 (.int .i64 y) rfl)
          have HBz := Lib.hid (HBn.out.setCell (p := ⟨wr.heap.size, 0, none⟩) nf (.int .i64 y))
          refine wpAnyH_ready (rs := [11]) (by kernel_rfl) (by simp) ?_
          refine AllReadyH.cons (o := { dst := none, op := .store 25 (.tmp 5) (.tmp 32), type := _, pos := _, after := _, guard := _ }) rfl (fun K' hK => ?_) AllReadyH.nil
          go_simp
          refine hK.out _ _ (HS.out _ HBz.out) (fun hS9 => ?_)
          clear hK K'
          try simp only [Act.put, List.setIfInBounds_toArray, List.set_cons_zero, List.set_cons_succ]
          refine wpAnyH_take (i := 12) (oi := { dst := some 6, op := .assign (.tmp 33), type := _, pos := _, after := _, guard := _ }) (v := .bool b) rfl (by kernel_rfl) (by kernel_rfl) (by kernel_rfl) (fun _ _ _ h => h) (Or.inl ⟨by rfl, ?_⟩) hS9 ?_
          · intro w' hSw
            go_simp
          try simp only [Act.put, List.setIfInBounds_toArray, List.set_cons_zero, List.set_cons_succ]
          refine wpAnyH_done (by kernel_rfl) ?_ _
          clear c80 f80 l80 HIn HBn hS9
          generalize w5.setCell ⟨wr.heap.size, 0, none⟩ (.int .i64 y) = w7 at *
          go_wp2_with fail
          go_meet
          exact ⟨_, rfl, rfl, nf, HIz.out, HBz.out⟩
      case rest =>
        obtain ⟨gn, rfl, rfl, hgn, hin, hbx⟩ := hcut
        have HX := Lib.hid (HH.out.next hbx)
        have c1 := HX.out.c0
        have l1 := HX.out.lt
        have f1 := HX.out.is.frozen 0
        have n1 : wc.cell? ⟨gn, 0, none⟩ = some (.int .i64 y) := hin.cell' rfl
        have m1 := hin.lt
        clear hin hbx c0 l0 lq HS q0
        go_wp2_with fail
        go_roundw
        case rel => exact ⟨k + 1, by omega, by go_num, by rw [HY.out]; exact HX.out.put y⟩
        case measure => simp [intOf]; omega
    · have e1 : decide ((k : Int) < (l.length : Int)) = false := by simp; omega
      obtain rfl : k = l.length := by omega
      have c0 := HH.out.c0
      have l0 := HH.out.lt
      by_cases hz : l.length = 0
      · have e2 : ((l.length : Int) == 0) = true := by simp [hz]
        have hx : lk l l.length = 0 := if_pos hz
        rw [hx] at HH c0
        go_wp2_with fail
        refine (freeB 0 true rfl _).mono ?_
        rintro e w9 ⟨rfl, b9⟩
        have H9 := Lib.hid (HH.out.next b9)
        clear b9
        go_wp2_with fail
        go_ret
        exact ⟨rfl, H9.out.below⟩
      · have e2 : ((l.length : Int) == 0) = false := by simp; intro h; exact hz (by simp [h])
        have hl0 : 0 < l.length := by omega
        have hx : lk l l.length = l[0] + 1 := by unfold lk; rw [if_neg hz, List.getD_eq_getElem?_getD, List.getElem?_eq_getElem hl0]; rfl
        obtain ⟨q, off, rfl, _, hq, q0⟩ := (HF.out.below HH.out.below).int (i := 0) hl0
        simp only [Nat.add_zero] at q0
        have ha := bounds_u8 (HI.out _ (List.getElem_mem hl0))
        have HA0 : Hid (l[0] = l[0]) := rfl
        obtain ⟨a, hal⟩ : ∃ a, l[0] = a := ⟨_, rfl⟩
        rw [hal] at hx q0 ha
        rw [hx] at HH c0
        have HA := Lib.hid ha
        have wa : IntKind.i64.wrap a = a := by rw [IntKind.wrap_i64]; omega
        have hok : Hid (Ok (a + 1)) := by show Ok (a + 1); unfold Ok; omega
        have e3 : (a != a) = false := by simp
        have hla : Hid (l[0] = a) := hal
        have lq : q < wr.heap.size := block_lt_of_cell q0
        have r0 := cell_regrown c0
        have r1 := cell_regrown q0
        have e4 : (0 : Int) < (l.length : Int) := by omega
        have hqg : q < g := Nat.lt_of_lt_of_le hq HH.out.ge
        clear ha hx HA0 hal
        go_wp2_with fail
        refine wp_region_quiet_below (by kernel_rfl) (by kernel_rfl) ?_
        repeat (quiet_step (first
          | (go_at_call 13; exact Calls.regrown_of (ownerB (a + 1) hok.out a (by omega) _))))
        refine wpQuiet_nil ?_
        intro _ hw'
        obtain ⟨⟨nq, osq⟩, hw''⟩ := hw'
        subst hw''
        have Kz := below_regrown wr nq osq
        have H8 := Lib.hid (HH.out.next Kz)
        clear Kz r0 r1 c0 l0 lq q0 HH
        generalize Go.Sort.grow (redrawn wr nq) osq = w8 at *
        go_wp2_with fail
        go_loopw [7] (fun i wr => ∃ (k : Nat), k ≤ l.length ∧ i = .int .i64 k ∧ Has w g (a + 1) wr) (fun i _ => l.length - (intOf i).toNat)
        case atStart => exact ⟨0, Nat.zero_le _, rfl, H8.out⟩
        case round =>
          clear H8
          obtain ⟨k, hk, rfl, hH⟩ := hrel
          have HH := Lib.hid hH
          clear hH
          have c0 := HH.out.c0
          have l0 := HH.out.lt
          have hsq := HF.out.below HH.out.below
          obtain ⟨q', off', e, _, _, q0⟩ := hsq.int (i := 0) hl0
          obtain ⟨rfl, rfl⟩ : q = q' ∧ off = off' := by simpa using e
          clear e
          simp only [Nat.add_zero] at q0
          rw [hla.out] at q0
          have lq : q < wr.heap.size := block_lt_of_cell q0
          by_cases hlt : k < l.length
          · have e1 : decide ((k : Int) < (l.length : Int)) = true := by simp; omega
            obtain ⟨q', off', e, _, _, q1⟩ := hsq.int (i := k) hlt
            obtain ⟨rfl, rfl⟩ : q = q' ∧ off = off' := by simpa using e
            clear e hsq
            have hz := bounds_u8 (HI.out _ (List.getElem_mem hlt))
            generalize l[k] = z at *
            by_cases hza : z = a
            · have e5 : (z == a) = true := by simp [hza]
              go_wp2_with fail
              go_quiet (fail)
              go_wp2_with fail
              go_roundw
              case rel => exact ⟨k + 1, by omega, by go_num, HH.out.drewN _⟩
              case measure => simp [intOf]; omega
            · have e5 : (z == a) = false := by simpa using hza
              have HG := Lib.hid (gv_far hza)
              have wz : IntKind.i64.wrap z = z := by rw [IntKind.wrap_i64]; omega
              clear hz
              go_wp2_with fail
              go_quiet (fail)
              go_upto_region 19 with (fail)
              have HQ := Lib.hid (HH.out.drewN nq)
              have q2 : (wr.drewN nq).cell? ⟨q, off + k, none⟩ = some (.int .u8 z) := q1
              clear c0 l0 q0 q1 lq
              generalize wr.drewN nq = wq at *
              have c1 := HQ.out.c0
              have l1 := HQ.out.lt
              have lq1 : q < wq.heap.size := block_lt_of_cell q2
              have HS : Hid (∀ w', Below wq.heap.size wq w' → w'.cell? ⟨g, 0, none⟩ = some (.int .i64 (a + 1)) ∧ w'.cell? ⟨q, off + k, none⟩ = some (.int .u8 z)) := fun w' hb => ⟨(hb.cell (p := ⟨g, 0, none⟩) l1).trans c1, (hb.cell (p := ⟨q, off + k, none⟩) lq1).trans q2⟩
              go_cut [8, 9] (fun v7 v8 wx => v8 = .bool false ∧ Below wq.heap.size wq wx)
              case first =>
                refine wp_region_held_drew (S := fun w' => w'.cell? ⟨g, 0, none⟩ = some (.int .i64 (a + 1)) ∧ w'.cell? ⟨q, off + k, none⟩ = some (.int .u8 z)) (by kernel_rfl) (HS.out _ (Law.below_drewN (Below.refl _ wq) 1)) (fun hS0 => ?_)
                refine wpAnyH_take (i := 0) (oi := { dst := some 66, op := .load 25 (.tmp 3), type := _, pos := _, after := _, guard := _ }) (v := K (a + 1)) rfl (by kernel_rfl) (by kernel_rfl) (by kernel_rfl) (fun _ _ _ h => h) (Or.inl ⟨by rfl, ?_⟩) hS0 ?_
                · intro w' hSw
                  obtain ⟨s0, s1⟩ := hSw
                  go_simp
                try simp only [Act.put, List.setIfInBounds_toArray, List.set_cons_zero, List.set_cons_succ]
                refine wpAnyH_take (i := 1) (oi := { dst := some 67, op := .move (.tmp 0), type := _, pos := _, after := _, guard := _ }) (v := .slice (some ⟨q, off, none⟩) l.length c) rfl (by kernel_rfl) (by kernel_rfl) (by kernel_rfl) (fun _ _ _ h => h) (Or.inl ⟨by rfl, ?_⟩) hS0 ?_
                · intro w' hSw
                  go_simp
                try simp only [Act.put, List.setIfInBounds_toArray, List.set_cons_zero, List.set_cons_succ]
                refine wpAnyH_take (i := 2) (oi := { dst := some 68, op := .move (.tmp 7), type := _, pos := _, after := _, guard := _ }) (v := .int .i64 (k : Int)) rfl (by kernel_rfl) (by kernel_rfl) (by kernel_rfl) (fun _ _ _ h => h) (Or.inl ⟨by rfl, ?_⟩) hS0 ?_
                · intro w' hSw
                  go_simp
                try simp only [Act.put, List.setIfInBounds_toArray, List.set_cons_zero, List.set_cons_succ]
                refine wpAnyH_take (i := 3) (oi := { dst := some 69, op := .indexAddr 37 (.tmp 67) (.tmp 68), type := _, pos := _, after := _, guard := _ }) (v := .pointer (some ⟨q, off + k, none⟩)) rfl (by kernel_rfl) (by kernel_rfl) (by kernel_rfl) (fun _ _ _ h => h) (Or.inl ⟨by rfl, ?_⟩) hS0 ?_
                · intro w' hSw
                  go_simp; (try (intro h8; omega))
                try simp only [Act.put, List.setIfInBounds_toArray, List.set_cons_zero, List.set_cons_succ]
                refine wpAnyH_take (i := 4) (oi := { dst := some 70, op := .load 5 (.tmp 69), type := _, pos := _, after := _, guard := _ }) (v := .int .u8 z) rfl (by kernel_rfl) (by kernel_rfl) (by kernel_rfl) (fun _ _ _ h => h) (Or.inl ⟨by rfl, ?_⟩) hS0 ?_
                · intro w' hSw
                  obtain ⟨s0, s1⟩ := hSw
                  go_simp
                try simp only [Act.put, List.setIfInBounds_toArray, List.set_cons_zero, List.set_cons_succ]
                refine wpAnyH_take (i := 5) (oi := { dst := some 71, op := .convert 5 3 (.tmp 70), type := _, pos := _, after := _, guard := _ }) (v := .int .i64 z) rfl (by kernel_rfl) (by kernel_rfl) (by kernel_rfl) (fun _ _ _ h => h) (Or.inl ⟨by rfl, ?_⟩) hS0 ?_
                · intro w' hSw
                  go_simp
                try simp only [Act.put, List.setIfInBounds_toArray, List.set_cons_zero, List.set_cons_succ]
                refine wpAnyH_ready (rs := [6, 10]) (by kernel_rfl) (by simp) ?_
                refine AllReadyH.cons (o := { dst := some 72, op := .call { callee := .value (.func 9), args := #[.tmp 66, .tmp 71], argTypes := _ }, type := _, pos := _, after := _, guard := _ }) rfl (fun K' hK => ?_) ?_
                · go_simp
                  refine Calls.mono (give1 (a + 1) z hok.out (a + 1) false HG.out _) ?_
                  rintro e w5 ⟨rfl, b1⟩
                  have b2 : Below wq.heap.size wq w5 := Below.trans (Law.below_drewN (Below.refl _ wq) 1) (Below.mono b1 (Nat.le_refl _))
                  go_wp2_with fail
                  refine hK.out _ _ (HS.out _ b2) (fun hS1 => ?_)
                  clear hK K'
                  try simp only [Act.put, List.setIfInBounds_toArray, List.set_cons_zero, List.set_cons_succ]
                  refine wpAnyH_take (i := 7) (oi := { dst := some 65, op := .move (.tmp 72), type := _, pos := _, after := _, guard := _ }) (v := .tuple #[K (a + 1), .bool false]) rfl (by kernel_rfl) (by kernel_rfl) (by kernel_rfl) (fun _ _ _ h => h) (Or.inl ⟨by rfl, ?_⟩) hS1 ?_
                  · intro w' hSw
                    go_simp
                  try simp only [Act.put, List.setIfInBounds_toArray, List.set_cons_zero, List.set_cons_succ]
                  refine wpAnyH_take (i := 8) (oi := { dst := some 73, op := .extract (.tmp 65) 0, type := _, pos := _, after := _, guard := _ }) (v := K (a + 1)) rfl (by kernel_rfl) (by kernel_rfl) (by kernel_rfl) (fun _ _ _ h => h) (Or.inl ⟨by rfl, ?_⟩) hS1 ?_
                  · intro w' hSw
                    go_simp
                  try simp only [Act.put, List.setIfInBounds_toArray, List.set_cons_zero, List.set_cons_succ]
                  refine wpAnyH_take (i := 9) (oi := { dst := some 74, op := .extract (.tmp 65) 1, type := _, pos := _, after := _, guard := _ }) (v := .bool false) rfl (by kernel_rfl) (by kernel_rfl) (by kernel_rfl) (fun _ _ _ h => h) (Or.inl ⟨by rfl, ?_⟩) hS1 ?_
                  · intro w' hSw
                    go_simp
                  try simp only [Act.put, List.setIfInBounds_toArray, List.set_cons_zero, List.set_cons_succ]
                  refine wpAnyH_ready (rs := [10]) (by kernel_rfl) (by simp) ?_
                  refine AllReadyH.cons (o := { dst := some 8, op := .alloc 25, type := _, pos := _, after := _, guard := _ }) rfl (fun K' hK => ?_) AllReadyH.nil
                  go_simp
                  have ba := (Below.refl w5.heap.size w5).alloc (Nat.le_refl _) (C 0)
                  have HBn := Lib.hid (b2.trans (ba.mono b2.size))
                  have HIn := Lib.hid (Law.Is.new w5 25 #[.int .i64 0] rfl)
                  have nf : wq.heap.size ≤ w5.heap.size := b2.size
                  refine hK.out _ _ (HS.out _ HBn.out) (fun hS2 => ?_)
                  clear hK K'
                  try simp only [Act.put, List.setIfInBounds_toArray, List.set_cons_zero, List.set_cons_succ]
                  generalize w5.alloc (C 0) = w6 at *
                  have c80 : w6.cell? ⟨w5.heap.size, 0, none⟩ = some (.int .i64 0) := HIn.out.cell' rfl
                  have f80 := HIn.out.frozen 0
                  have l80 := HIn.out.lt
                  have HIz := Lib.hid (HIn.out.set 0 (.int .i64 (a + 1)) rfl)
                  have HBz := Lib.hid (HBn.out.setCell (p := ⟨w5.heap.size, 0, none⟩) nf (.int .i64 (a + 1)))
                  refine wpAnyH_ready (rs := [11]) (by kernel_rfl) (by simp) ?_
                  refine AllReadyH.cons (o := { dst := none, op := .store 25 (.tmp 8) (.tmp 73), type := _, pos := _, after := _, guard := _ }) rfl (fun K' hK => ?_) AllReadyH.nil
                  go_simp
                  refine hK.out _ _ (HS.out _ HBz.out) (fun hS9 => ?_)
                  clear hK K'
                  try simp only [Act.put, List.setIfInBounds_toArray, List.set_cons_zero, List.set_cons_succ]
                  refine wpAnyH_take (i := 12) (oi := { dst := some 9, op := .assign (.tmp 74), type := _, pos := _, after := _, guard := _ }) (v := .bool false) rfl (by kernel_rfl) (by kernel_rfl) (by kernel_rfl) (fun _ _ _ h => h) (Or.inl ⟨by rfl, ?_⟩) hS9 ?_
                  · intro w' hSw
                    go_simp
                  try simp only [Act.put, List.setIfInBounds_toArray, List.set_cons_zero, List.set_cons_succ]
                  refine wpAnyH_done (by kernel_rfl) ?_ _
                  clear c80 f80 l80 HIn HBn hS9
                  generalize w6.setCell ⟨w5.heap.size, 0, none⟩ (.int .i64 (a + 1)) = w7 at *
                  go_wp2_with fail
                  go_meet
                  exact ⟨rfl, HBz.out⟩
                · refine AllReadyH.cons (o := { dst := some 8, op := .alloc 25, type := _, pos := _, after := _, guard := _ }) rfl (fun K' hK => ?_) AllReadyH.nil
                  go_simp
                  have ba : Below wq.heap.size wq (wq.alloc (C 0)).drew := Law.below_drewN ((Below.refl wq.heap.size wq).alloc (Nat.le_refl _) (C 0)) 1
                  have HI4 : Hid (Law.Is (wq.alloc (C 0)).drew wq.heap.size 25 #[.int .i64 0]) := (Law.Is.new wq 25 #[.int .i64 0] rfl).drewN 1
                  refine hK.out _ _ (HS.out _ ba) (fun hS2 => ?_)
                  clear hK K'
                  try simp only [Act.put, List.setIfInBounds_toArray, List.set_cons_zero, List.set_cons_succ]
                  generalize (wq.alloc (C 0)).drew = w4 at *
                  refine wpAnyH_ready (rs := [6]) (by kernel_rfl) (by simp) ?_
                  refine AllReadyH.cons (o := { dst := some 72, op := .call { callee := .value (.func 9), args := #[.tmp 66, .tmp 71], argTypes := _ }, type := _, pos := _, after := _, guard := _ }) rfl (fun K' hK => ?_) AllReadyH.nil
                  go_simp
                  refine Calls.mono (give1 (a + 1) z hok.out (a + 1) false HG.out _) ?_
                  rintro e w5 ⟨rfl, b1⟩
                  have HBn := Lib.hid (ba.trans (Below.mono b1 ba.size))
                  have HIn := Lib.hid (HI4.out.below b1 HI4.out.lt)
                  have nf : wq.heap.size ≤ wq.heap.size := Nat.le_refl _
                  go_wp2_with fail
                  refine hK.out _ _ (HS.out _ HBn.out) (fun hS1 => ?_)
                  clear hK K'
                  try simp only [Act.put, List.setIfInBounds_toArray, List.set_cons_zero, List.set_cons_succ]
                  refine wpAnyH_take (i := 7) (oi := { dst := some 65, op := .move (.tmp 72), type := _, pos := _, after := _, guard := _ }) (v := .tuple #[K (a + 1), .bool false]) rfl (by kernel_rfl) (by kernel_rfl) (by kernel_rfl) (fun _ _ _ h => h) (Or.inl ⟨by rfl, ?_⟩) hS1 ?_
                  · intro w' hSw
                    go_simp
                  try simp only [Act.put, List.setIfInBounds_toArray, List.set_cons_zero, List.set_cons_succ]
                  refine wpAnyH_take (i := 8) (oi := { dst := some 73, op := .extract (.tmp 65) 0, type := _, pos := _, after := _, guard := _ }) (v := K (a + 1)) rfl (by kernel_rfl) (by kernel_rfl) (by kernel_rfl) (fun _ _ _ h => h) (Or.inl ⟨by rfl, ?_⟩) hS1 ?_
                  · intro w' hSw
                    go_simp
                  try simp only [Act.put, List.setIfInBounds_toArray, List.set_cons_zero, List.set_cons_succ]
                  refine wpAnyH_take (i := 9) (oi := { dst := some 74, op := .extract (.tmp 65) 1, type := _, pos := _, after := _, guard := _ }) (v := .bool false) rfl (by kernel_rfl) (by kernel_rfl) (by kernel_rfl) (fun _ _ _ h => h) (Or.inl ⟨by rfl, ?_⟩) hS1 ?_
                  · intro w' hSw
                    go_simp
                  try simp only [Act.put, List.setIfInBounds_toArray, List.set_cons_zero, List.set_cons_succ]
                  have c80 : w5.cell? ⟨wq.heap.size, 0, none⟩ = some (.int .i64 0) := HIn.out.cell' rfl
                  have f80 := HIn.out.frozen 0
                  have l80 := HIn.out.lt
                  have HIz := Lib.hid (HIn.out.set 0 (.int .i64 (a + 1)) rfl)
                  have HBz := Lib.hid (HBn.out.setCell (p := ⟨wq.heap.size, 0, none⟩) nf (.int .i64 (a + 1)))
                  refine wpAnyH_ready (rs := [11]) (by kernel_rfl) (by simp) ?_
                  refine AllReadyH.cons (o := { dst := none, op := .store 25 (.tmp 8) (.tmp 73), type := _, pos := _, after := _, guard := _ }) rfl (fun K' hK => ?_) AllReadyH.nil
                  go_simp
                  refine hK.out _ _ (HS.out _ HBz.out) (fun hS9 => ?_)
                  clear hK K'
                  try simp only [Act.put, List.setIfInBounds_toArray, List.set_cons_zero, List.set_cons_succ]
                  refine wpAnyH_take (i := 12) (oi := { dst := some 9, op := .assign (.tmp 74), type := _, pos := _, after := _, guard := _ }) (v := .bool false) rfl (by kernel_rfl) (by kernel_rfl) (by kernel_rfl) (fun _ _ _ h => h) (Or.inl ⟨by rfl, ?_⟩) hS9 ?_
                  · intro w' hSw
                    go_simp
                  try simp only [Act.put, List.setIfInBounds_toArray, List.set_cons_zero, List.set_cons_succ]
                  refine wpAnyH_done (by kernel_rfl) ?_ _
                  clear c80 f80 l80 HIn HBn hS9
                  generalize w5.setCell ⟨wq.heap.size, 0, none⟩ (.int .i64 (a + 1)) = w7 at *
                  go_wp2_with fail
                  go_meet
                  exact ⟨rfl, HBz.out⟩
              case rest =>
                obtain ⟨rfl, hbx⟩ := hcut
                have HX := Lib.hid (HQ.out.next hbx)
                clear hbx c1 l1 q2 lq1
                go_wp2_with fail
                go_roundw
                case rel => exact ⟨k + 1, by omega, by go_num, HX.out⟩
                case measure => simp [intOf]; omega
          · have e1 : decide ((k : Int) < (l.length : Int)) = false := by simp; omega
            have HG := Lib.hid (gv_same HA.out.1)
            clear hsq
            go_wp2_with fail
            refine wp_region_held_drew (S := fun w' => w'.cell? ⟨q, off, none⟩ = some (.int .u8 a)) (by kernel_rfl) q0 (fun hS0 => ?_)
            refine wpAnyH_take (i := 1) (oi := { dst := some 78, op := .move (.tmp 0), type := _, pos := _, after := _, guard := _ }) (v := .slice (some ⟨q, off, none⟩) l.length c) rfl (by kernel_rfl) (by kernel_rfl) (by kernel_rfl) (fun _ _ _ h => h) (Or.inl ⟨by rfl, ?_⟩) hS0 ?_
            · intro w' hSw
              go_simp
            try simp only [Act.put, List.setIfInBounds_toArray, List.set_cons_zero, List.set_cons_succ]
            refine wpAnyH_take (i := 2) (oi := { dst := some 79, op := .indexAddr 37 (.tmp 78) (.const (.int .i64 0)), type := _, pos := _, after := _, guard := _ }) (v := .pointer (some ⟨q, off, none⟩)) rfl (by kernel_rfl) (by kernel_rfl) (by kernel_rfl) (fun _ _ _ h => h) (Or.inl ⟨by rfl, ?_⟩) hS0 ?_
            · intro w' hSw
              go_simp; (try (intro h8; omega))
            try simp only [Act.put, List.setIfInBounds_toArray, List.set_cons_zero, List.set_cons_succ]
            refine wpAnyH_take (i := 3) (oi := { dst := some 80, op := .load 5 (.tmp 79), type := _, pos := _, after := _, guard := _ }) (v := .int .u8 a) rfl (by kernel_rfl) (by kernel_rfl) (by kernel_rfl) (fun _ _ _ h => h) (Or.inl ⟨by rfl, ?_⟩) hS0 ?_
            · intro w' hSw
              have s1 := hSw
              go_simp
            try simp only [Act.put, List.setIfInBounds_toArray, List.set_cons_zero, List.set_cons_succ]
            refine wpAnyH_take (i := 4) (oi := { dst := some 81, op := .convert 5 3 (.tmp 80), type := _, pos := _, after := _, guard := _ }) (v := .int .i64 a) rfl (by kernel_rfl) (by kernel_rfl) (by kernel_rfl) (fun _ _ _ h => h) (Or.inl ⟨by rfl, ?_⟩) hS0 ?_
            · intro w' hSw
              go_simp
            try simp only [Act.put, List.setIfInBounds_toArray, List.set_cons_zero, List.set_cons_succ]
            refine wpAnyH_ready (rs := [0]) (by kernel_rfl) (by simp) ?_
            refine AllReadyH.cons (o := { dst := some 77, op := .load 25 (.tmp 3), type := _, pos := _, after := _, guard := _ }) rfl (fun K hK => ?_) AllReadyH.nil
            go_simp
            refine hK.out _ _ hS0 (fun hS1 => ?_)
            clear hK K
            try simp only [Act.put, List.setIfInBounds_toArray, List.set_cons_zero, List.set_cons_succ]
            refine wpAnyH_ready (rs := [5]) (by kernel_rfl) (by simp) ?_
            refine AllReadyH.cons (o := { dst := some 82, op := .call { callee := .value (.func 9), args := #[.tmp 77, .tmp 81], argTypes := _ }, type := _, pos := _, after := _, guard := _ }) rfl (fun K hK => ?_) AllReadyH.nil
            go_simp
            refine Calls.mono (give1 (a + 1) a hok.out 0 true HG.out _) ?_
            rintro e w5 ⟨rfl, b5⟩
            have H5 := Lib.hid ((HH.out.drewN 1).next b5)
            have c5 := H5.out.c0
            have f5 := H5.out.is.frozen 0
            have l5 := H5.out.lt
            go_wp2_with fail
            refine hK.out _ _ ((b5.cell lq).trans hS1) (fun hS2 => ?_)
            clear hK K
            try simp only [Act.put, List.setIfInBounds_toArray, List.set_cons_zero, List.set_cons_succ]
            refine wpAnyH_take (i := 6) (oi := { dst := some 76, op := .move (.tmp 82), type := _, pos := _, after := _, guard := _ }) (v := .tuple #[K 0, .bool true]) rfl (by kernel_rfl) (by kernel_rfl) (by kernel_rfl) (fun _ _ _ h => h) (Or.inl ⟨by rfl, ?_⟩) hS2 ?_
            · intro w' hSw
              go_simp
            try simp only [Act.put, List.setIfInBounds_toArray, List.set_cons_zero, List.set_cons_succ]
            refine wpAnyH_take (i := 7) (oi := { dst := some 83, op := .extract (.tmp 76) 0, type := _, pos := _, after := _, guard := _ }) (v := K 0) rfl (by kernel_rfl) (by kernel_rfl) (by kernel_rfl) (fun _ _ _ h => h) (Or.inl ⟨by rfl, ?_⟩) hS2 ?_
            · intro w' hSw
              go_simp
            try simp only [Act.put, List.setIfInBounds_toArray, List.set_cons_zero, List.set_cons_succ]
            refine wpAnyH_take (i := 8) (oi := { dst := some 84, op := .extract (.tmp 76) 1, type := _, pos := _, after := _, guard := _ }) (v := .bool true) rfl (by kernel_rfl) (by kernel_rfl) (by kernel_rfl) (fun _ _ _ h => h) (Or.inl ⟨by rfl, ?_⟩) hS2 ?_
            · intro w' hSw
              go_simp
            try simp only [Act.put, List.setIfInBounds_toArray, List.set_cons_zero, List.set_cons_succ]
            refine wpAnyH_ready (rs := [9]) (by kernel_rfl) (by simp) ?_
            refine AllReadyH.cons (o := { dst := none, op := .store 25 (.tmp 3) (.tmp 83), type := _, pos := _, after := _, guard := _ }) rfl (fun K hK => ?_) AllReadyH.nil
            go_simp
            refine hK.out _ _ ((World.cell?_setCell_far _ _ _ _ (by simp only []; omega)).trans hS2) (fun hS3 => ?_)
            clear hK K
            try simp only [Act.put, List.setIfInBounds_toArray, List.set_cons_zero, List.set_cons_succ]
            refine wpAnyH_done (by kernel_rfl) ?_ _
            have H6 := Lib.hid (H5.out.put 0)
            clear H5 c5 f5 l5 hS0 hS1 hS2 hS3 c0 l0 q0 b5
            generalize w5.setCell ⟨g, 0, none⟩ (.int .i64 0) = w6 at *
            have c6 := H6.out.c0
            have l6 := H6.out.lt
            go_wp2_with fail
            refine (freeB 0 true rfl _).mono ?_
            rintro e w9 ⟨rfl, b9⟩
            have H9 := Lib.hid (H6.out.next b9)
            clear b9
            go_wp2_with fail
            go_ret
            exact ⟨rfl, H9.out.below⟩

theorem walkLong (A : Option Addr) (n c : Nat) (hn : 400 < n) (w : World) :
    Calls Try.prog 7 #[.slice A n c] w fun e w' => e = .returned (.bool true) ∧ Below w.heap.size w w' := by
  have d0 : decide (400 < (n : Int)) = true := by simp; omega
  go_enter Try.func7, Try.ntmps7
  go_wp2_with fail
  refine (awake w).mono ?_
  rintro e w1 ⟨rfl, b1⟩
  have HB := Lib.hid b1
  clear b1
  go_wp2_with fail
  refine (awake _).mono ?_
  rintro e w2 ⟨rfl, b2⟩
  have HB2 := Lib.hid (HB.out.trans (b2.mono HB.out.size))
  clear b2
  go_wp2_with fail
  go_ret
  exact ⟨rfl, HB2.out⟩

theorem walk0 (A : Option Addr) (c : Nat) (l : List Int) (hI : ∀ z ∈ l, (Lit.int .u8 z).wf = true) (w : World) (hf : Seq w 0 w.heap.size A (l.map (.int .u8))) :
    Calls Try.prog 7 #[.slice A l.length c] w fun e w' => e = .returned (.bool true) ∧ Below w.heap.size w w' := by
  by_cases h : l.length ≤ 400
  · exact walk A c l h hI w hf
  · exact walkLong A _ c (by omega) w

set_option maxRecDepth 100000 in
theorem lifted (os : Os) (started : os.Started) (H : Type) (enc : TypeId × Value → H) :
    ReturnsInHanded {} Try.checked os 7 .any (Rows.latchFirstSpec.pre6 enc Try.prog Try.f7 Rows.latchFirstRow.domain false) (Rows.latchFirstSpec.post enc Try.prog Try.f7 false true false false) := by
  refine returnsInHanded_of_change (C := Try.checked) own started (by kernel_rfl) Try.func7
    (ChangeSpec.witness6 (enc := enc) (C := Try.checked) false ⟨#[], #[.slice none 0 0], []⟩ 8 (by kernel_rfl) (by kernel_rfl) (by kernel_rfl) (by kernel_rfl)) ?_
  intro W base args ds gs before hval0 hW hcnd _
  have hval : ∀ (j : Nat) t v, Try.f7.params[j]? = some t → args[j]? = some v → Value.okWide Try.prog W .any base t v := hval0
  have hW' := hW
  obtain ⟨p, q, hA0, hV, rfl, hfz, hnd⟩ := hW
  have hA : DataW.TrodAll enc Try.prog W 0 (fun _ => true) true Try.f7.params.toList args.toList ds p := hA0
  rw [Try.params7] at hA hval
  obtain ⟨v0, vs0, d0, ds0, p0, q0, hargs, rfl, rfl, h0, r0⟩ := trodAll_cons hA
  obtain ⟨rfl, rfl, rfl⟩ := trodAll_nil r0
  obtain rfl : args = #[v0] := by cases args; simp_all
  obtain ⟨A, c, l, rfl, hf, hl, hc, hI⟩ := Law.open_nums Try.underlying37 Try.underlying5 (by kernel_rfl) (hval 0 37 v0 rfl rfl) h0
  refine (walk0 A c l hI W hf).mono fun e W' ⟨he, bel⟩ => ?_
  subst he
  exact ⟨_, rfl, Law.post_law laidOut (by kernel_rfl) (by kernel_rfl) Try.underlying4 rfl (fun ds h => by match ds, h with | [_], _ => rfl) hW' bel⟩

theorem proved : Rows.LatchFirstSaid :=
  OpenClaim.holds_of_wide 7 Try.f7 rfl rfl rfl rfl rfl rfl rfl ⟨rfl, rfl, rfl, rfl, rfl⟩ rfl rfl rfl rfl rfl (by kernel_rfl) Try.func7 (by kernel_rfl)
    (of_decide_eq_true (by kernel_rfl)) (by unfold Func.isWrapper; rw [if_neg (by decide +kernel)]; exact ⟨rfl, rfl⟩)
    (fun os started H enc _ => lifted os started H enc)
#print axioms proved
end Go.Proofs.Ytnbnhkijmlbefaa.latchFirst
