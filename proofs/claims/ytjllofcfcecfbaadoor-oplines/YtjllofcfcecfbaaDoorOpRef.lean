/-
  The reference's words (layer 11): Digits, Int, Presence.
-/
import Derived.Test.YtjllofcfcecfbaaDoorOpPre
import Derived.Test.YtjllofcfcecfbaaDoorOneByte
import Derived.Test.YtjllofcfcecfbaaDoorRoundHeld
import Derived.RegionTactic
import Derived.Deep.DeepCutAuto
import Derived.Laws.BitsAllLaws
namespace Go.Proofs.YtjllofcfcecfbaaDoor
open Go.RowKit Go.Shelf Go.Lib
attribute [local go_sem] Oper.semAt_some
namespace Opx
open Go.Law
theorem dec_last (u : Nat) (h : ¬ u < 10) : decB u = decB (u / 10) ++ ⟨#[UInt8.ofNat (48 + u % 10)]⟩ := by
  unfold decB
  rw [Lib.decDigits, dif_neg h]
  apply ByteArray.ext
  rw [ByteArray.data_append]
  simp
theorem dec_one (u : Nat) (h : u < 10) : decB u = ⟨#[UInt8.ofNat (48 + u)]⟩ := by
  unfold decB
  rw [Lib.decDigits, dif_pos h]
theorem hcv1 (W : World) (g k : Nat) (z8 : UInt8) (hz : UInt8.ofNat (48 + k) = z8) (h : W.cell? ⟨g, 0, none⟩ = some (.int .u8 (48 + (k : Int)))) : (convert 47 9 (.slice (some ⟨g, 0, none⟩) 1 1)).run Tryd.prog W = .ok (.string ⟨#[z8]⟩) W := by
  have := Law.one_byte (P := Tryd.prog) (src := 47) (dst := 9) Tryd.underlying47 Tryd.underlying5 Tryd.underlying9 W g 1 (48 + (k : Int)) h
  rw [show (48 + (k : Int)).toNat = 48 + k by omega, hz] at this
  exact this
set_option maxRecDepth 100000 in
theorem rDig1 (u : Nat) (h10 : u < 10) (w : World) : Calls Tryd.prog 26 #[.int .u64 (u : Int)] w fun e w' => e = .returned (.string (decB u)) ∧ Below w.heap.size w w' := by
  have d1 : decide (((u : Nat) : Int) < 10) = true := by simp; omega
  obtain ⟨z8, hz8⟩ : ∃ z8, UInt8.ofNat (48 + u) = z8 := ⟨_, rfl⟩
  rw [dec_one u h10, hz8]
  have mw : IntKind.u8.wrap (48 + ((u : Nat) : Int)) = 48 + ((u : Nat) : Int) := by rw [IntKind.wrap_u8]; omega
  have hcv := hcv1 (w.alloc (.cells #[.int .u8 (48 + ((u : Nat) : Int))] 5)) w.heap.size u z8 hz8 ((Is.new w _ _ rfl).cell' rfl)
  clear hz8
  go_enter Tryd.func26, Tryd.ntmps26
  go_wp2_with fail
  go_ret
  exact ⟨rfl, (Below.refl _ w).alloc (Nat.le_refl _) _⟩
set_option maxRecDepth 100000 in
set_option maxHeartbeats 2000000 in
theorem rDigits (n : Nat) : ∀ (u : Nat), u ≤ n → u < 18446744073709551616 → ∀ (w : World), Calls Tryd.prog 26 #[.int .u64 (u : Int)] w fun e w' => e = .returned (.string (decB u)) ∧ Below w.heap.size w w' := by
  induction n with
  | zero =>
    intro u hu0 hu w
    obtain rfl : u = 0 := by omega
    exact rDig1 0 (by decide) w
  | succ n ih =>
    intro u hun hu w
    by_cases h10 : u < 10
    · exact rDig1 u h10 w
    · have d1 : decide ((u : Int) < 10) = false := by simp; omega
      obtain ⟨q, hq⟩ : ∃ q, u / 10 = q := ⟨_, rfl⟩
      obtain ⟨k, hk⟩ : ∃ k, u % 10 = k := ⟨_, rfl⟩
      have hk10 : k < 10 := by omega
      obtain ⟨z8, hz8⟩ : ∃ z8, UInt8.ofNat (48 + k) = z8 := ⟨_, rfl⟩
      have hd : decB u = decB q ++ ⟨#[z8]⟩ := by rw [dec_last u h10, hq, hk, hz8]
      have HI := Lib.hid (ih q (by omega) (by omega))
      have HCV := Lib.hid (fun W g => hcv1 W g k z8 hz8)
      have hsz := decB_size q (by omega)
      have m1 : (u : Int).tdiv 10 = (q : Int) := by rw [Int.tdiv_eq_ediv_of_nonneg (by omega)]; omega
      have m2 : (u : Int).tmod 10 = (k : Int) := by rw [Int.tmod_eq_emod_of_nonneg (by omega)]; omega
      have m1' : (u : Int) / 10 = (q : Int) := by omega
      have m2' : (u : Int) % 10 = (k : Int) := by omega
      have mw : IntKind.u8.wrap (48 + (k : Int)) = 48 + (k : Int) := by rw [IntKind.wrap_u8]; omega
      have mq : IntKind.u64.wrap (q : Int) = (q : Int) := by rw [IntKind.wrap_u64]; omega
      have m48 : IntKind.u64.wrap (48 + (k : Int)) = 48 + (k : Int) := by rw [IntKind.wrap_u64]; omega
      rw [hd]
      clear hq hk ih h10 hun hz8 hd
      generalize decB q = sq at *
      go_enter Tryd.func26, Tryd.ntmps26
      go_wp2_with fail
      refine wp_region_held_drew (S := fun _ => True) (by kernel_rfl) trivial (fun hS0 => ?_)
      refine wpAnyH_take (i := 0) (oi := { dst := some 10, op := .move (.tmp 0), type := _, pos := _, after := _, guard := _ }) (v := .int .u64 (u : Int)) rfl (by kernel_rfl) (by kernel_rfl) (by kernel_rfl) (fun _ _ _ h => h) (Or.inl ⟨by rfl, ?_⟩) hS0 ?_
      · intro w' hSw
        go_simp
      try simp only [Act.put, List.setIfInBounds_toArray, List.set_cons_zero, List.set_cons_succ]
      refine wpAnyH_take (i := 1) (oi := { dst := some 11, op := .binOp .quo 22 (.tmp 10) (.const (.int .u64 10)) 22, type := _, pos := _, after := _, guard := _ }) (v := .int .u64 (q : Int)) rfl (by kernel_rfl) (by kernel_rfl) (by kernel_rfl) (fun _ _ _ h => h) (Or.inl ⟨by rfl, ?_⟩) hS0 ?_
      · intro w' hSw
        try exact mq
        go_simp
      try simp only [Act.put, List.setIfInBounds_toArray, List.set_cons_zero, List.set_cons_succ]
      refine wpAnyH_take (i := 3) (oi := { dst := some 13, op := .move (.tmp 0), type := _, pos := _, after := _, guard := _ }) (v := .int .u64 (u : Int)) rfl (by kernel_rfl) (by kernel_rfl) (by kernel_rfl) (fun _ _ _ h => h) (Or.inl ⟨by rfl, ?_⟩) hS0 ?_
      · intro w' hSw
        go_simp
      try simp only [Act.put, List.setIfInBounds_toArray, List.set_cons_zero, List.set_cons_succ]
      refine wpAnyH_take (i := 4) (oi := { dst := some 14, op := .binOp .rem 22 (.tmp 13) (.const (.int .u64 10)) 22, type := _, pos := _, after := _, guard := _ }) (v := .int .u64 (k : Int)) rfl (by kernel_rfl) (by kernel_rfl) (by kernel_rfl) (fun _ _ _ h => h) (Or.inl ⟨by rfl, ?_⟩) hS0 ?_
      · intro w' hSw
        go_simp
      try simp only [Act.put, List.setIfInBounds_toArray, List.set_cons_zero, List.set_cons_succ]
      refine wpAnyH_take (i := 5) (oi := { dst := some 15, op := .binOp .add 22 (.const (.int .u64 48)) (.tmp 14) 22, type := _, pos := _, after := _, guard := _ }) (v := .int .u64 (48 + (k : Int))) rfl (by kernel_rfl) (by kernel_rfl) (by kernel_rfl) (fun _ _ _ h => h) (Or.inl ⟨by rfl, ?_⟩) hS0 ?_
      · intro w' hSw
        try exact m48
        go_simp
      try simp only [Act.put, List.setIfInBounds_toArray, List.set_cons_zero, List.set_cons_succ]
      refine wpAnyH_take (i := 6) (oi := { dst := some 16, op := .convert 22 5 (.tmp 15), type := _, pos := _, after := _, guard := _ }) (v := .int .u8 (48 + (k : Int))) rfl (by kernel_rfl) (by kernel_rfl) (by kernel_rfl) (fun _ _ _ h => h) (Or.inl ⟨by rfl, ?_⟩) hS0 ?_
      · intro w' hSw
        try exact mw
        go_simp
      try simp only [Act.put, List.setIfInBounds_toArray, List.set_cons_zero, List.set_cons_succ]
      have HB7 : Hid (Below w.heap.size w w.drew) := Lib.hid (Law.below_drewN (Below.refl _ w) 1)
      refine wpAnyH_ready (rs := [2, 7]) (by kernel_rfl) (by simp) ?_
      refine AllReadyH.cons (o := { dst := some 12, op := .call { callee := .value (.func 26), args := #[.tmp 11], argTypes := _ }, type := _, pos := _, after := _, guard := _ }) rfl (fun K hK => ?_) ?_
      · go_simp
        refine Calls.mono (HI.out w.drew) ?_
        rintro e w10 ⟨rfl, b10⟩
        have HB10 := Lib.hid (HB7.out.trans (b10.mono HB7.out.size))
        clear b10
        go_wp2_with fail
        refine hK.out _ _ trivial (fun hS3 => ?_)
        clear hK K
        try simp only [Act.put, List.setIfInBounds_toArray, List.set_cons_zero, List.set_cons_succ]
        have ba := (Below.refl w10.heap.size w10).alloc (Nat.le_refl _) (.cells #[.int .u8 (48 + (k : Int))] 5)
        have HG11 := Lib.hid ((Is.new w10 5 #[.int .u8 (48 + (k : Int))] rfl).cell' (i := 0) (v := .int .u8 (48 + (k : Int))) rfl)
        have HB11 := Lib.hid (HB10.out.trans (ba.mono HB10.out.size))
        clear ba
        refine wpAnyH_ready (rs := [7]) (by kernel_rfl) (by simp) ?_
        refine AllReadyH.cons (o := { dst := some 17, op := .buildSlice 47 1 #[(0, .tmp 16)], type := _, pos := _, after := _, guard := _ }) rfl (fun K hK => ?_) AllReadyH.nil
        go_simp
        refine hK.out _ _ trivial (fun hS4 => ?_)
        clear hK K
        try simp only [Act.put, List.setIfInBounds_toArray, List.set_cons_zero, List.set_cons_succ]
        generalize w10.alloc (.cells #[.int .u8 (48 + (k : Int))] 5) = w11 at *
        have hcv := HCV.out w11 w10.heap.size HG11.out
        refine wpAnyH_ready (rs := [8]) (by kernel_rfl) (by simp) ?_
        refine AllReadyH.cons (o := { dst := some 18, op := .convert 47 9 (.tmp 17), type := _, pos := _, after := _, guard := _ }) rfl (fun K hK => ?_) AllReadyH.nil
        go_simp
        refine hK.out _ _ trivial (fun hS5 => ?_)
        clear hK K
        try simp only [Act.put, List.setIfInBounds_toArray, List.set_cons_zero, List.set_cons_succ]
        clear hcv
        refine wpAnyH_take (i := 9) (oi := { dst := some 19, op := .binOp .add 9 (.tmp 12) (.tmp 18) 9, type := _, pos := _, after := _, guard := _ }) (v := .string (sq ++ ⟨#[z8]⟩)) rfl (by kernel_rfl) (by kernel_rfl) (by kernel_rfl) (fun _ _ _ h => h) (Or.inl ⟨by rfl, ?_⟩) hS5 ?_
        · intro w' hSw
          go_simp
          omega
        try simp only [Act.put, List.setIfInBounds_toArray, List.set_cons_zero, List.set_cons_succ]
        refine wpAnyH_take (i := 10) (oi := { dst := some 2, op := .assign (.tmp 19), type := _, pos := _, after := _, guard := _ }) (v := .string (sq ++ ⟨#[z8]⟩)) rfl (by kernel_rfl) (by kernel_rfl) (by kernel_rfl) (fun _ _ _ h => h) (Or.inl ⟨by rfl, ?_⟩) hS5 ?_
        · intro w' hSw
          go_simp
        try simp only [Act.put, List.setIfInBounds_toArray, List.set_cons_zero, List.set_cons_succ]
        refine wpAnyH_done (by kernel_rfl) ?_ _
        go_wp2_with fail
        go_ret
        exact ⟨rfl, HB11.out⟩
      · refine AllReadyH.cons (o := { dst := some 17, op := .buildSlice 47 1 #[(0, .tmp 16)], type := _, pos := _, after := _, guard := _ }) rfl (fun K hK => ?_) AllReadyH.nil
        go_simp
        have ba : Below w.heap.size w (w.alloc (.cells #[.int .u8 (48 + (k : Int))] 5)).drew := Law.below_drewN ((Below.refl w.heap.size w).alloc (Nat.le_refl _) (.cells #[.int .u8 (48 + (k : Int))] 5)) 1
        have HG12 : Hid ((w.alloc (.cells #[.int .u8 (48 + (k : Int))] 5)).drew.cell? ⟨w.heap.size, 0, none⟩ = some (.int .u8 (48 + (k : Int)))) := Lib.hid ((Is.new w 5 #[.int .u8 (48 + (k : Int))] rfl).cell' (i := 0) (v := .int .u8 (48 + (k : Int))) rfl)
        have HB12 := Lib.hid ba
        clear ba
        refine hK.out _ _ trivial (fun hS6 => ?_)
        clear hK K
        try simp only [Act.put, List.setIfInBounds_toArray, List.set_cons_zero, List.set_cons_succ]
        generalize (w.alloc (.cells #[.int .u8 (48 + (k : Int))] 5)).drew = w12 at *
        refine wpAnyH_ready (rs := [2, 8]) (by kernel_rfl) (by simp) ?_
        refine AllReadyH.cons (o := { dst := some 12, op := .call { callee := .value (.func 26), args := #[.tmp 11], argTypes := _ }, type := _, pos := _, after := _, guard := _ }) rfl (fun K hK => ?_) ?_
        · go_simp
          refine Calls.mono (HI.out w12) ?_
          rintro e w13 ⟨rfl, b13⟩
          have HB13 := Lib.hid (HB12.out.trans (b13.mono HB12.out.size))
          have HG13 := Lib.hid ((b13.cell (p := ⟨w.heap.size, 0, none⟩) (World.block_lt_of_cell? _ _ HG12.out)).trans HG12.out)
          clear b13
          go_wp2_with fail
          refine hK.out _ _ trivial (fun hS7 => ?_)
          clear hK K
          try simp only [Act.put, List.setIfInBounds_toArray, List.set_cons_zero, List.set_cons_succ]
          have hcv := HCV.out w13 w.heap.size HG13.out
          refine wpAnyH_ready (rs := [8]) (by kernel_rfl) (by simp) ?_
          refine AllReadyH.cons (o := { dst := some 18, op := .convert 47 9 (.tmp 17), type := _, pos := _, after := _, guard := _ }) rfl (fun K hK => ?_) AllReadyH.nil
          go_simp
          refine hK.out _ _ trivial (fun hS8 => ?_)
          clear hK K
          try simp only [Act.put, List.setIfInBounds_toArray, List.set_cons_zero, List.set_cons_succ]
          clear hcv
          refine wpAnyH_take (i := 9) (oi := { dst := some 19, op := .binOp .add 9 (.tmp 12) (.tmp 18) 9, type := _, pos := _, after := _, guard := _ }) (v := .string (sq ++ ⟨#[z8]⟩)) rfl (by kernel_rfl) (by kernel_rfl) (by kernel_rfl) (fun _ _ _ h => h) (Or.inl ⟨by rfl, ?_⟩) hS8 ?_
          · intro w' hSw
            go_simp
            omega
          try simp only [Act.put, List.setIfInBounds_toArray, List.set_cons_zero, List.set_cons_succ]
          refine wpAnyH_take (i := 10) (oi := { dst := some 2, op := .assign (.tmp 19), type := _, pos := _, after := _, guard := _ }) (v := .string (sq ++ ⟨#[z8]⟩)) rfl (by kernel_rfl) (by kernel_rfl) (by kernel_rfl) (fun _ _ _ h => h) (Or.inl ⟨by rfl, ?_⟩) hS8 ?_
          · intro w' hSw
            go_simp
          try simp only [Act.put, List.setIfInBounds_toArray, List.set_cons_zero, List.set_cons_succ]
          refine wpAnyH_done (by kernel_rfl) ?_ _
          go_wp2_with fail
          go_ret
          exact ⟨rfl, HB13.out⟩
        · refine AllReadyH.cons (o := { dst := some 18, op := .convert 47 9 (.tmp 17), type := _, pos := _, after := _, guard := _ }) rfl (fun K hK => ?_) AllReadyH.nil
          have hcv := HCV.out w12 w.heap.size HG12.out
          go_simp
          refine hK.out _ _ trivial (fun hS9 => ?_)
          clear hK K hcv
          try simp only [Act.put, List.setIfInBounds_toArray, List.set_cons_zero, List.set_cons_succ]
          refine wpAnyH_ready (rs := [2]) (by kernel_rfl) (by simp) ?_
          refine AllReadyH.cons (o := { dst := some 12, op := .call { callee := .value (.func 26), args := #[.tmp 11], argTypes := _ }, type := _, pos := _, after := _, guard := _ }) rfl (fun K hK => ?_) AllReadyH.nil
          go_simp
          refine Calls.mono (HI.out w12) ?_
          rintro e w14 ⟨rfl, b14⟩
          have HB14 := Lib.hid (HB12.out.trans (b14.mono HB12.out.size))
          go_wp2_with fail
          refine hK.out _ _ trivial (fun hS10 => ?_)
          clear hK K
          try simp only [Act.put, List.setIfInBounds_toArray, List.set_cons_zero, List.set_cons_succ]
          refine wpAnyH_take (i := 9) (oi := { dst := some 19, op := .binOp .add 9 (.tmp 12) (.tmp 18) 9, type := _, pos := _, after := _, guard := _ }) (v := .string (sq ++ ⟨#[z8]⟩)) rfl (by kernel_rfl) (by kernel_rfl) (by kernel_rfl) (fun _ _ _ h => h) (Or.inl ⟨by rfl, ?_⟩) hS10 ?_
          · intro w' hSw
            go_simp
            omega
          try simp only [Act.put, List.setIfInBounds_toArray, List.set_cons_zero, List.set_cons_succ]
          refine wpAnyH_take (i := 10) (oi := { dst := some 2, op := .assign (.tmp 19), type := _, pos := _, after := _, guard := _ }) (v := .string (sq ++ ⟨#[z8]⟩)) rfl (by kernel_rfl) (by kernel_rfl) (by kernel_rfl) (fun _ _ _ h => h) (Or.inl ⟨by rfl, ?_⟩) hS10 ?_
          · intro w' hSw
            go_simp
          try simp only [Act.put, List.setIfInBounds_toArray, List.set_cons_zero, List.set_cons_succ]
          refine wpAnyH_done (by kernel_rfl) ?_ _
          go_wp2_with fail
          go_ret
          exact ⟨rfl, HB14.out⟩
theorem digitsR (u : Nat) (hu : u < 18446744073709551616) (w : World) : Calls Tryd.prog 26 #[.int .u64 (u : Int)] w fun e w' => e = .returned (.string (decB u)) ∧ Below w.heap.size w w' := rDigits u u (Nat.le_refl _) hu w
theorem u64_not (a : Nat) (ha : a < 18446744073709551616) : bits .xor .u64 IntKind.u64.max (a : Int) = 18446744073709551615 - (a : Int) := by
  show IntKind.u64.wrap ((BitVec.ofInt 64 (18446744073709551615 : Int) ^^^ BitVec.ofInt 64 (a : Int)).toNat : Int) = _
  have h1 : BitVec.ofInt 64 18446744073709551615 = BitVec.allOnes 64 := by decide
  rw [h1, BitVec.allOnes_xor, BitVec.toNat_not, ofInt_u64 a (by omega)]
  rw [IntKind.wrap_u64]
  omega
theorem neg_bits (n : Int) (m : Nat) (h0 : -9223372036854775808 ≤ n) (h : n < 0) (hm : n.natAbs = m) : IntKind.u64.wrap (bits .xor .u64 IntKind.u64.max (IntKind.u64.wrap n) + 1) = (m : Int) := by
  have hw : IntKind.u64.wrap n = ((18446744073709551616 - m : Nat) : Int) := by rw [IntKind.wrap_u64]; omega
  rw [hw, u64_not _ (by omega), IntKind.wrap_u64]
  omega
theorem int_neg (n : Int) (h : n < 0) : intB n = ⟨#[45]⟩ ++ decB n.natAbs := by
  unfold intB decB Lib.itoa
  rw [if_pos h]
  apply ByteArray.ext
  rw [ByteArray.data_append]
  simp
theorem int_pos (n : Int) (h : ¬ n < 0) : intB n = decB n.toNat := by
  unfold intB decB Lib.itoa
  rw [if_neg h]
set_option maxRecDepth 100000 in
set_option maxHeartbeats 2000000 in
theorem rInt (n : Int) (h0 : -9223372036854775808 ≤ n) (h1 : n ≤ 9223372036854775807) (w : World) : Calls Tryd.prog 25 #[.int .i64 n] w fun e w' => e = .returned (.string (intB n)) ∧ Below w.heap.size w w' := by
  by_cases h : n < 0
  · have d1 : decide (0 ≤ n) = false := decide_eq_false (by omega)
    rw [int_neg n h]
    obtain ⟨m, hm⟩ : ∃ m, n.natAbs = m := ⟨_, rfl⟩
    rw [hm]
    have hnb := neg_bits n m h0 h hm
    have hsz := decB_size m (by omega)
    have HD := Lib.hid (fun W => digitsR m (by omega) W)
    clear hm
    generalize decB m = sm at *
    go_enter Tryd.func25, Tryd.ntmps25
    go_wp2_with fail
    refine (HD.out w).mono ?_
    rintro e w1 ⟨rfl, b1⟩
    have h45 : (⟨#[45]⟩ : ByteArray).size = 1 := rfl
    go_wp2_with fail
    go_ret
    exact ⟨rfl, b1⟩
  · have d1 : decide (0 ≤ n) = true := decide_eq_true (by omega)
    rw [int_pos n h]
    obtain ⟨m, rfl⟩ := Int.eq_ofNat_of_zero_le (show 0 ≤ n by omega)
    have hw : IntKind.u64.wrap (m : Int) = (m : Int) := by rw [IntKind.wrap_u64]; omega
    have HD := Lib.hid (fun W => digitsR m (by omega) W)
    rw [Int.toNat_natCast]
    go_enter Tryd.func25, Tryd.ntmps25
    go_wp2_with fail
    refine (HD.out w).mono ?_
    rintro e w1 ⟨rfl, b1⟩
    go_wp2_with fail
    go_ret
    exact ⟨rfl, b1⟩
set_option maxRecDepth 100000 in
set_option maxHeartbeats 2000000 in
theorem rPresence (a b c : Int) (ha : I64 a) (hb : I64 b) (hc : I64 c) (w : World) (hT : Tabs w) :
    Calls Tryd.prog 16 #[.agg #[.int .i64 a, .int .i64 b, .int .i64 c]] w fun e w' => e = .returned (.string (presB a b c)) ∧ Below w.heap.size w w' := by
  have bb := (Below.refl w.heap.size w).alloc (Nat.le_refl _) (.cells #[.int .i64 a, .int .i64 b, .int .i64 c] 38)
  have HX := Lib.hid (Is.new w 38 #[.int .i64 a, .int .i64 b, .int .i64 c] rfl)
  have HB := Lib.hid bb
  have HTb := Lib.hid (hT.below bb)
  clear hT bb
  go_enter Tryd.func16, Tryd.ntmps16
  go_wp2_with fail
  generalize w.alloc (.cells #[.int .i64 a, .int .i64 b, .int .i64 c] 38) = w1 at *
  have ia := intB_size a ha
  have ib := intB_size b hb
  have ic := intB_size c hc
  have x0 : w1.cell? ⟨w.heap.size, 0, none⟩ = some (.int .i64 a) := HX.out.cell' rfl
  have x1 : w1.cell? ⟨w.heap.size, 1, none⟩ = some (.int .i64 b) := HX.out.cell' rfl
  have x2 : w1.cell? ⟨w.heap.size, 2, none⟩ = some (.int .i64 c) := HX.out.cell' rfl
  refine wp_region_held_drew (S := fun w' => w'.cell? ⟨w.heap.size, 0, none⟩ = some (.int .i64 a) ∧ w'.cell? ⟨w.heap.size, 1, none⟩ = some (.int .i64 b) ∧ w'.cell? ⟨w.heap.size, 2, none⟩ = some (.int .i64 c)) (by kernel_rfl) ⟨x0, x1, x2⟩ (fun hS0 => ?_)
  refine wpAnyH_take (i := 0) (oi := { dst := some 3, op := .fieldAddr 38 (.tmp 1) 0, type := _, pos := _, after := _, guard := _ }) (v := .pointer (some ⟨w.heap.size, 0, none⟩)) rfl (by kernel_rfl) (by kernel_rfl) (by kernel_rfl) (fun _ _ _ h => h) (Or.inl ⟨by rfl, ?_⟩) hS0 ?_
  · intro w' hSw
    go_simp
  try simp only [Act.put, List.setIfInBounds_toArray, List.set_cons_zero, List.set_cons_succ]
  refine wpAnyH_take (i := 1) (oi := { dst := some 4, op := .load 3 (.tmp 3), type := _, pos := _, after := _, guard := _ }) (v := .int .i64 a) rfl (by kernel_rfl) (by kernel_rfl) (by kernel_rfl) (fun _ _ _ h => h) (Or.inl ⟨by rfl, ?_⟩) hS0 ?_
  · intro w' hSw
    obtain ⟨s1', s2', s3'⟩ := hSw
    go_simp
  try simp only [Act.put, List.setIfInBounds_toArray, List.set_cons_zero, List.set_cons_succ]
  refine wpAnyH_take (i := 4) (oi := { dst := some 7, op := .fieldAddr 38 (.tmp 1) 1, type := _, pos := _, after := _, guard := _ }) (v := .pointer (some ⟨w.heap.size, 1, none⟩)) rfl (by kernel_rfl) (by kernel_rfl) (by kernel_rfl) (fun _ _ _ h => h) (Or.inl ⟨by rfl, ?_⟩) hS0 ?_
  · intro w' hSw
    go_simp
  try simp only [Act.put, List.setIfInBounds_toArray, List.set_cons_zero, List.set_cons_succ]
  refine wpAnyH_take (i := 5) (oi := { dst := some 8, op := .load 3 (.tmp 7), type := _, pos := _, after := _, guard := _ }) (v := .int .i64 b) rfl (by kernel_rfl) (by kernel_rfl) (by kernel_rfl) (fun _ _ _ h => h) (Or.inl ⟨by rfl, ?_⟩) hS0 ?_
  · intro w' hSw
    obtain ⟨s1', s2', s3'⟩ := hSw
    go_simp
  try simp only [Act.put, List.setIfInBounds_toArray, List.set_cons_zero, List.set_cons_succ]
  refine wpAnyH_take (i := 9) (oi := { dst := some 12, op := .fieldAddr 38 (.tmp 1) 2, type := _, pos := _, after := _, guard := _ }) (v := .pointer (some ⟨w.heap.size, 2, none⟩)) rfl (by kernel_rfl) (by kernel_rfl) (by kernel_rfl) (fun _ _ _ h => h) (Or.inl ⟨by rfl, ?_⟩) hS0 ?_
  · intro w' hSw
    go_simp
  try simp only [Act.put, List.setIfInBounds_toArray, List.set_cons_zero, List.set_cons_succ]
  refine wpAnyH_take (i := 10) (oi := { dst := some 13, op := .load 3 (.tmp 12), type := _, pos := _, after := _, guard := _ }) (v := .int .i64 c) rfl (by kernel_rfl) (by kernel_rfl) (by kernel_rfl) (fun _ _ _ h => h) (Or.inl ⟨by rfl, ?_⟩) hS0 ?_
  · intro w' hSw
    obtain ⟨s1', s2', s3'⟩ := hSw
    go_simp
  try simp only [Act.put, List.setIfInBounds_toArray, List.set_cons_zero, List.set_cons_succ]
  have HXa : Hid (Is w1.drew w.heap.size 38 #[.int .i64 a, .int .i64 b, .int .i64 c]) := HX.out.drewN 1
  have HBa := Lib.hid (Law.below_drewN HB.out 1)
  have HTa := Lib.hid (HTb.out.below (Law.below_drewN (Below.refl _ w1) 1))
  refine wpAnyH_ready (rs := [2]) (by kernel_rfl) (by simp) ?_
  refine AllReadyH.cons (o := { dst := some 5, op := .call { callee := .value (.func 25), args := #[.tmp 4], argTypes := _ }, type := _, pos := _, after := _, guard := _ }) rfl (fun K hK => ?_) AllReadyH.nil
  go_simp
  refine Calls.mono (rInt a ha.1 ha.2 w1.drew) ?_
  rintro e vp ⟨rfl, bx⟩
  have HXp := Lib.hid (HXa.out.below bx HXa.out.lt)
  have HBp := Lib.hid (HBa.out.trans (bx.mono HBa.out.size))
  have HTp := Lib.hid (HTa.out.below bx)
  clear bx
  go_wp2_with fail
  refine hK.out _ _ ⟨HXp.out.cell' rfl, HXp.out.cell' rfl, HXp.out.cell' rfl⟩ (fun hSp => ?_)
  clear hK K
  try simp only [Act.put, List.setIfInBounds_toArray, List.set_cons_zero, List.set_cons_succ]
  refine wpAnyH_take (i := 3) (oi := { dst := some 6, op := .binOp .add 9 (.tmp 5) (.const (.string ⟨#[47]⟩)) 9, type := _, pos := _, after := _, guard := _ }) (v := .string (intB a ++ ⟨#[47]⟩)) rfl (by kernel_rfl) (by kernel_rfl) (by kernel_rfl) (fun _ _ _ h => h) (Or.inl ⟨by rfl, ?_⟩) hSp ?_
  · intro w' hSw
    go_simp
    omega
  try simp only [Act.put, List.setIfInBounds_toArray, List.set_cons_zero, List.set_cons_succ]
  refine wpAnyH_ready (rs := [6]) (by kernel_rfl) (by simp) ?_
  refine AllReadyH.cons (o := { dst := some 9, op := .call { callee := .value (.func 25), args := #[.tmp 8], argTypes := _ }, type := _, pos := _, after := _, guard := _ }) rfl (fun K hK => ?_) AllReadyH.nil
  go_simp
  refine Calls.mono (rInt b hb.1 hb.2 vp) ?_
  rintro e vq ⟨rfl, bx⟩
  have HXq := Lib.hid (HXp.out.below bx HXp.out.lt)
  have HBq := Lib.hid (HBp.out.trans (bx.mono HBp.out.size))
  have HTq := Lib.hid (HTp.out.below bx)
  clear bx
  go_wp2_with fail
  refine hK.out _ _ ⟨HXq.out.cell' rfl, HXq.out.cell' rfl, HXq.out.cell' rfl⟩ (fun hSq => ?_)
  clear hK K
  try simp only [Act.put, List.setIfInBounds_toArray, List.set_cons_zero, List.set_cons_succ]
  refine wpAnyH_take (i := 7) (oi := { dst := some 10, op := .binOp .add 9 (.tmp 6) (.tmp 9) 9, type := _, pos := _, after := _, guard := _ }) (v := .string ((intB a ++ ⟨#[47]⟩) ++ intB b)) rfl (by kernel_rfl) (by kernel_rfl) (by kernel_rfl) (fun _ _ _ h => h) (Or.inl ⟨by rfl, ?_⟩) hSq ?_
  · intro w' hSw
    go_simp
    omega
  try simp only [Act.put, List.setIfInBounds_toArray, List.set_cons_zero, List.set_cons_succ]
  refine wpAnyH_take (i := 8) (oi := { dst := some 11, op := .binOp .add 9 (.tmp 10) (.const (.string ⟨#[47]⟩)) 9, type := _, pos := _, after := _, guard := _ }) (v := .string (((intB a ++ ⟨#[47]⟩) ++ intB b) ++ ⟨#[47]⟩)) rfl (by kernel_rfl) (by kernel_rfl) (by kernel_rfl) (fun _ _ _ h => h) (Or.inl ⟨by rfl, ?_⟩) hSq ?_
  · intro w' hSw
    go_simp
    omega
  try simp only [Act.put, List.setIfInBounds_toArray, List.set_cons_zero, List.set_cons_succ]
  refine wpAnyH_ready (rs := [11]) (by kernel_rfl) (by simp) ?_
  refine AllReadyH.cons (o := { dst := some 14, op := .call { callee := .value (.func 25), args := #[.tmp 13], argTypes := _ }, type := _, pos := _, after := _, guard := _ }) rfl (fun K hK => ?_) AllReadyH.nil
  go_simp
  refine Calls.mono (rInt c hc.1 hc.2 vq) ?_
  rintro e vr ⟨rfl, bx⟩
  have HXr := Lib.hid (HXq.out.below bx HXq.out.lt)
  have HBr := Lib.hid (HBq.out.trans (bx.mono HBq.out.size))
  have HTr := Lib.hid (HTq.out.below bx)
  clear bx
  go_wp2_with fail
  refine hK.out _ _ ⟨HXr.out.cell' rfl, HXr.out.cell' rfl, HXr.out.cell' rfl⟩ (fun hSr => ?_)
  clear hK K
  try simp only [Act.put, List.setIfInBounds_toArray, List.set_cons_zero, List.set_cons_succ]
  refine wpAnyH_take (i := 12) (oi := { dst := some 15, op := .binOp .add 9 (.tmp 11) (.tmp 14) 9, type := _, pos := _, after := _, guard := _ }) (v := .string ((((intB a ++ ⟨#[47]⟩) ++ intB b) ++ ⟨#[47]⟩) ++ intB c)) rfl (by kernel_rfl) (by kernel_rfl) (by kernel_rfl) (fun _ _ _ h => h) (Or.inl ⟨by rfl, ?_⟩) hSr ?_
  · intro w' hSw
    go_simp
    omega
  try simp only [Act.put, List.setIfInBounds_toArray, List.set_cons_zero, List.set_cons_succ]
  refine wpAnyH_take (i := 13) (oi := { dst := some 2, op := .assign (.tmp 15), type := _, pos := _, after := _, guard := _ }) (v := .string ((((intB a ++ ⟨#[47]⟩) ++ intB b) ++ ⟨#[47]⟩) ++ intB c)) rfl (by kernel_rfl) (by kernel_rfl) (by kernel_rfl) (fun _ _ _ h => h) (Or.inl ⟨by rfl, ?_⟩) hSr ?_
  · intro w' hSw
    go_simp
  try simp only [Act.put, List.setIfInBounds_toArray, List.set_cons_zero, List.set_cons_succ]
  refine wpAnyH_done (by kernel_rfl) ?_ _
  go_wp2_with fail
  go_ret
  exact ⟨rfl, HBr.out⟩
end Opx
end Go.Proofs.YtjllofcfcecfbaaDoor
