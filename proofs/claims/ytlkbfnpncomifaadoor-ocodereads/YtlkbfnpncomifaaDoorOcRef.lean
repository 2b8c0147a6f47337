/-
  The reference's bytes (layer 12): at, Long, User, Pick.
-/
import Derived.Test.YtlkbfnpncomifaaDoorOcAwk
import Derived.Test.YtlkbfnpncomifaaDoorOneByte
namespace Go.Proofs.YtlkbfnpncomifaaDoor
open Go.RowKit Go.Lib
attribute [local go_sem] Oper.semAt_some
namespace Opx
open Go.Law
set_option maxRecDepth 100000 in
theorem rAt {w : World} {A : Option Addr} {c : Nat} {b : List Int} (hs : Seq w 0 w.heap.size A (b.map (.int .u8))) (hb : Bytes b) (i : Nat) {x : Int} (hx : at_ b i = x) :
    Calls Tryd.prog 23 #[.slice A b.length c, .int .i64 (i : Int)] w fun e w' => e = .returned (.int .i64 x) ∧ w' = w := by
  have hx2 := hb.at i
  rw [hx] at hx2
  by_cases h : i < b.length
  · have d1 : decide ((i : Int) < (b.length : Int)) = true := by simp; omega
    obtain ⟨q, off, rfl, _, hq, hcell⟩ := Seq.int (k := .u8) hs (i := i) h
    have he : b[i] = x := by rw [← hx]; simp [at_, List.getD_eq_getElem?_getD, List.getElem?_eq_getElem h]
    rw [he] at hcell
    clear hs hb hx he
    go_enter Tryd.func23, Tryd.ntmps23
    go_wp2_with fail
    go_ret
    exact ⟨rfl, rfl⟩
  · have d1 : decide ((i : Int) < (b.length : Int)) = false := by simp; omega
    have he : x = 0 := by rw [← hx]; exact at_behind (by omega)
    subst he
    clear hs hb hx
    go_enter Tryd.func23, Tryd.ntmps23
    go_wp2_with fail
    go_ret
    exact ⟨rfl, rfl⟩
set_option maxRecDepth 100000 in
theorem rLong (n : Int) (hn : 0 ≤ n ∧ n ≤ 255) (w : World) {x : Int} (hx : longI n = x) : Calls Tryd.prog 24 #[.int .i64 n] w fun e w' => e = .returned (.int .u64 x) ∧ w' = w := by
  subst hx
  by_cases h : n < 192
  · have d0 : decide (n < 192) = true := decide_eq_true h
    have e : longI n = n := if_pos h
    rw [e]
    go_enter Tryd.func24, Tryd.ntmps24
    go_wp2_with fail
    go_ret
    exact ⟨rfl, rfl⟩
  · have d0 : decide (n < 192) = false := decide_eq_false h
    have e : longI n = 18446744073709551615 - (255 - n) := if_neg h
    rw [e]
    go_enter Tryd.func24, Tryd.ntmps24
    go_wp2_with fail
    go_ret
    exact ⟨rfl, rfl⟩
set_option maxRecDepth 100000 in
theorem rPick (a c : Int) (ha : 0 ≤ a ∧ a ≤ 255) (hc : 0 ≤ c ∧ c ≤ 255) (w : World) {p : Pk} (hp : pickP a c = p) : Calls Tryd.prog 14 #[.int .i64 a, .int .i64 c] w fun e w' => e = .returned (.agg #[.int .i64 p.1, .int .i64 p.2.1, .int .u64 p.2.2]) ∧ Below w.heap.size w w' := by
  subst hp
  have hm := rem_pos (n := 16) ha.1
  have hm0 := Int.emod_nonneg a (show (16 : Int) ≠ 0 by omega)
  have hm1 := Int.emod_lt_of_pos a (show (0 : Int) < 16 by omega)
  by_cases h : a % 16 < 8
  · have d0 : decide (a % 16 < 8) = true := decide_eq_true h
    have e : pickP a c = (0, a % 16, 0) := if_pos h
    rw [e]
    go_enter Tryd.func14, Tryd.ntmps14
    go_wp2_with fail
    exact bodyPost_ret (v := .agg #[.int .i64 (0), .int .i64 (a % 16), .int .u64 (0)]) (by simp [results, Tryd.results14, go_sem]) rfl ⟨rfl, by repeat (first | exact Below.refl _ _ | refine Below.alloc ?_ (Nat.le_refl _) _ | refine Below.setCell ?_ (Nat.le_refl _) _)⟩
  · have d0 : decide (a % 16 < 8) = false := decide_eq_false h
    by_cases h2 : a % 16 ≤ 12
    · have d1 : decide (a % 16 < 13) = true := decide_eq_true (by omega)
      have e : pickP a c = (1, 0, 0) := by unfold pickP; rw [if_neg h, if_pos h2]
      rw [e]
      go_enter Tryd.func14, Tryd.ntmps14
      go_wp2_with fail
      exact bodyPost_ret (v := .agg #[.int .i64 (1), .int .i64 (0), .int .u64 (0)]) (by simp [results, Tryd.results14, go_sem]) rfl ⟨rfl, by repeat (first | exact Below.refl _ _ | refine Below.alloc ?_ (Nat.le_refl _) _ | refine Below.setCell ?_ (Nat.le_refl _) _)⟩
    · have d1 : decide (a % 16 < 13) = false := decide_eq_false (by omega)
      have e : pickP a c = (2, 0, longI c) := by unfold pickP; rw [if_neg h, if_neg h2]
      rw [e]
      go_enter Tryd.func14, Tryd.ntmps14
      go_wp2_with fail
      refine (rLong c hc _ rfl).mono ?_
      rintro e w1 ⟨rfl, rfl⟩
      go_wp2_with fail
      exact bodyPost_ret (v := .agg #[.int .i64 (2), .int .i64 (0), .int .u64 (longI c)]) (by simp [results, Tryd.results14, go_sem]) rfl ⟨rfl, by repeat (first | exact Below.refl _ _ | refine Below.alloc ?_ (Nat.le_refl _) _ | refine Below.setCell ?_ (Nat.le_refl _) _)⟩
theorem userB_small (n : Int) (h : 0 ≤ n % 10 ∧ n % 10 < 8) : userB n = ⟨#[117]⟩ ++ ⟨#[UInt8.ofNat (48 + (n % 10).toNat)]⟩ := by
  have : ∀ k : _root_.Fin 8, userL.getD (k : Nat) ⟨#[]⟩ = (⟨#[117]⟩ ++ ⟨#[UInt8.ofNat (48 + (k : Nat))]⟩ : ByteArray) := by decide +kernel
  exact this ⟨(n % 10).toNat, by omega⟩
set_option maxRecDepth 100000 in
theorem rUser (n : Int) (hn : 0 ≤ n ∧ n ≤ 255) (w : World) {x : ByteArray} (hx : userB n = x) : Calls Tryd.prog 16 #[.int .i64 n] w fun e w' => e = .returned (.string x) ∧ Below w.heap.size w w' := by
  subst hx
  have hm := rem_pos (n := 10) hn.1
  have hm0 := Int.emod_nonneg n (show (10 : Int) ≠ 0 by omega)
  have hm1 := Int.emod_lt_of_pos n (show (0 : Int) < 10 by omega)
  by_cases h8 : n % 10 = 8
  · have e : userB n = ⟨#[]⟩ := by unfold userB; rw [h8]; rfl
    rw [e]
    have d8 : (n % 10 == 8) = true := beq_iff_eq.2 h8
    clear h8
    go_enter Tryd.func16, Tryd.ntmps16
    go_wp2_with fail
    go_ret
    exact ⟨rfl, Below.refl _ _⟩
  · have d8 : (n % 10 == 8) = false := beq_eq_false_iff_ne.2 h8
    by_cases h9 : n % 10 = 9
    · have e : userB n = ⟨#[115, 101, 118, 101, 110, 116, 101, 101, 110, 32, 98, 121, 116, 101, 115, 46, 46]⟩ := by unfold userB; rw [h9]; rfl
      rw [e]
      have d9 : (n % 10 == 9) = true := beq_iff_eq.2 h9
      clear h9
      go_enter Tryd.func16, Tryd.ntmps16
      go_wp2_with fail
      go_ret
      exact ⟨rfl, Below.refl _ _⟩
    · have d9 : (n % 10 == 9) = false := beq_eq_false_iff_ne.2 h9
      have e := userB_small n (by omega)
      obtain ⟨z8, hz8⟩ : ∃ z8, UInt8.ofNat (48 + (n % 10).toNat) = z8 := ⟨_, rfl⟩
      rw [hz8] at e
      rw [e]
      clear e
      have hcv := Law.one_byte (P := Tryd.prog) (src := 22) (dst := 9) Tryd.underlying22 Tryd.underlying5 Tryd.underlying9 (w.alloc (.cells #[.int .u8 (48 + n % 10)] 5)) w.heap.size 1 (48 + n % 10) ((Is.new w _ _ rfl).cell' rfl)
      have ht : (48 + n % 10).toNat = 48 + (n % 10).toNat := by omega
      rw [ht, hz8] at hcv
      clear ht hz8
      go_enter Tryd.func16, Tryd.ntmps16
      go_wp2_with fail
      go_ret
      exact ⟨rfl, (Below.refl _ w).alloc (Nat.le_refl _) _⟩
end Opx
end Go.Proofs.YtlkbfnpncomifaaDoor
