/-
  What walk of an ordered map (layer 4) of texts to entries comes to at the body of a range; what All and Keys come to. (The steps of the drawn statement are laid by a script.)
-/
import Derived.Test.YtohdlnefgieenaaGreatJ5
import Derived.RangeFuncNested
import Derived.RangeFuncLeaves
import Derived.RangeFuncBound
import Derived.RangeFuncCalls
import Derived.Shelf.Abstract
import Derived.OwnWalkIn
import Derived.TacticsInMore
import Derived.LoopNIn
import Derived.LoopIn
import Derived.OrdersIn
namespace Go.Proofs.YtohdlnefgieenaaGreat
open Go.RowKit Go.Shelf
attribute [local go_sem] Oper.semAt_some
namespace OmapB
open Go.Law (EnV)
theorem room_none {F : Fence} (hd : F.depth = none) (k : Nat) : F.room k := fun d h => by rw [hd] at h; cases h
theorem yield_deep {F : Fence} (hd : F.depth = none) {m : Nat} (m' : Nat) {P : Program} {l : Nat} {args : Array Value} {W : World} {R : Ending → World → Prop} (h : YieldAt F m P l args W R) : YieldAt F m' P l args W R := by
 obtain ⟨fn, tmps, assign, body, hy, hR⟩ := h
 exact ⟨fn, tmps, assign, body, hy, hR.1, fun c cs _ => hR.2 c cs (room_none hd _)⟩
def Through (J Jx : List (ByteArray × EnV) → World → Prop) (n₀ : Nat) (pre xs : List (ByteArray × EnV)) (W : World) (e : Ending) (W' : World) : Prop :=
 (e = .returned (.bool true) ∧ J (pre ++ xs) W' ∧ Below n₀ W W') ∨ (e = .returned (.bool false) ∧ ∃ q, q <+: xs ∧ Jx (pre ++ q) W')

set_option linter.unusedSimpArgs false in
set_option maxRecDepth 100000 in
set_option maxHeartbeats 16000000 in
theorem walk_in (F : Fence) (hd : F.depth = none) (hF : ∀ f, F.fn f) (hro : F.round = none) (l n₀ N : Nat) (J Jx : List (ByteArray × EnV) → World → Prop) (hD : ∀ pre W, J pre W → J pre W.drew)
  (G : ByteArray × EnV → Prop) (hY : ∀ m pre x W, J pre W → G x → pre.length < N → YieldAt F m Tryz.prog l #[.string x.1, .agg #[.slice x.2.A x.2.n x.2.c, .int .i64 x.2.st, .int .i64 x.2.pr, .int .i64 x.2.lv]] W fun e W' =>
   (e = .returned (.bool true) ∧ J (pre ++ [x]) W' ∧ Below n₀ W W') ∨ (e = .returned (.bool false) ∧ Jx (pre ++ [x]) W')) :
  ∀ (sz n : Nat) (p : Option Addr) (pre xs : List (ByteArray × EnV)) (W : World), xs.length ≤ sz → At W n₀ p xs → J pre W → pre.length + xs.length ≤ N → (∀ q ∈ xs, G q) →
    CallsIn F n Tryz.prog 92 #[.pointer p, .func (.yield l) #[] #[]] W (Through J Jx n₀ pre xs W) := by
 have hdd : ∀ k : Nat, (F.depth.isSome = true → 1 ≤ k) := fun k h => by rw [hd] at h; cases h
 intro sz
 induction sz with
 | zero =>
   intro n p pre xs W hn h hJ _ _
   obtain rfl := List.eq_nil_of_length_eq_zero (by omega : xs.length = 0)
   obtain rfl := h.is_nil
   clear h
   have HJ := Lib.hid (hD pre W hJ)
   clear hJ hD hY
   refine callsIn_of_wp Tryz.func92 rfl (hF _) ?_ hro
   simp only [Tryz.ntmps92, List.size_toArray, List.length_cons, List.length_nil, Nat.reduceAdd, Nat.reduceSub, Array.replicate_succ, Array.replicate_zero, List.push_toArray, List.append_toArray, List.nil_append, List.cons_append]
   gi_wp2
   refine wpIn_region_any (by kernel_rfl) ?_
   change wpAnyIn _ _ _ _ _ _ _ _ _ W.drew
   refine wpAnyIn_take (i := 0) (oi := { dst := some 5, op := .move (.tmp 0), type := _, pos := _, after := _, guard := _ }) (v := .pointer none) hro rfl (by kernel_rfl) (by kernel_rfl) (by kernel_rfl) (fun _ _ _ h => h) ⟨Or.inl ⟨by rfl, ?_⟩, fun _ => rfl⟩ ?_
   ·intro w'
    go_simp
   try simp only [Act.put, List.setIfInBounds_toArray, List.set_cons_zero, List.set_cons_succ]
   refine wpAnyIn_take (i := 1) (oi := { dst := some 6, op := .binOp .eql 70 (.tmp 5) (.const (.pointer none)) 70, type := _, pos := _, after := _, guard := _ }) (v := .bool true) hro rfl (by kernel_rfl) (by kernel_rfl) (by kernel_rfl) (fun _ _ _ h => h) ⟨Or.inl ⟨by rfl, ?_⟩, fun _ => rfl⟩ ?_
   ·intro w'
    go_simp
   try simp only [Act.put, List.setIfInBounds_toArray, List.set_cons_zero, List.set_cons_succ]
   refine wpAnyIn_take (i := 2) (oi := { dst := some 7, op := .move (.tmp 6), type := _, pos := _, after := _, guard := _ }) (v := .bool true) hro rfl (by kernel_rfl) (by kernel_rfl) (by kernel_rfl) (fun _ _ _ h => h) ⟨Or.inl ⟨by rfl, ?_⟩, fun _ => rfl⟩ ?_
   ·intro w'
    go_simp
   try simp only [Act.put, List.setIfInBounds_toArray, List.set_cons_zero, List.set_cons_succ]
   refine wpAnyIn_take (i := 3) (oi := { dst := some 8, op := .move (.tmp 0), type := _, pos := _, after := _, guard := _ }) (v := undef) hro rfl (by kernel_rfl) (by kernel_rfl) (by kernel_rfl) (fun _ _ _ h => h) ⟨Or.inr ⟨by rfl, rfl⟩, fun _ => rfl⟩ ?_
   try simp only [Act.put, List.setIfInBounds_toArray, List.set_cons_zero, List.set_cons_succ]
   refine wpAnyIn_take (i := 4) (oi := { dst := some 9, op := .nilCheck (.tmp 8), type := _, pos := _, after := _, guard := _ }) (v := undef) hro rfl (by kernel_rfl) (by kernel_rfl) (by kernel_rfl) (fun _ _ _ h => h) ⟨Or.inr ⟨by rfl, rfl⟩, fun _ => rfl⟩ ?_
   try simp only [Act.put, List.setIfInBounds_toArray, List.set_cons_zero, List.set_cons_succ]
   refine wpAnyIn_take (i := 5) (oi := { dst := some 10, op := .fieldAddr 168 (.tmp 9) 2, type := _, pos := _, after := _, guard := _ }) (v := undef) hro rfl (by kernel_rfl) (by kernel_rfl) (by kernel_rfl) (fun _ _ _ h => h) ⟨Or.inr ⟨by rfl, rfl⟩, fun _ => rfl⟩ ?_
   try simp only [Act.put, List.setIfInBounds_toArray, List.set_cons_zero, List.set_cons_succ]
   refine wpAnyIn_take (i := 6) (oi := { dst := some 11, op := .load 70 (.tmp 10), type := _, pos := _, after := _, guard := _ }) (v := undef) hro rfl (by kernel_rfl) (by kernel_rfl) (by kernel_rfl) (fun _ _ _ h => h) ⟨Or.inr ⟨by rfl, rfl⟩, fun _ => rfl⟩ ?_
   try simp only [Act.put, List.setIfInBounds_toArray, List.set_cons_zero, List.set_cons_succ]
   refine wpAnyIn_take (i := 7) (oi := { dst := some 12, op := .move (.tmp 1), type := _, pos := _, after := _, guard := _ }) (v := undef) hro rfl (by kernel_rfl) (by kernel_rfl) (by kernel_rfl) (fun _ _ _ h => h) ⟨Or.inr ⟨by rfl, rfl⟩, fun _ => rfl⟩ ?_
   try simp only [Act.put, List.setIfInBounds_toArray, List.set_cons_zero, List.set_cons_succ]
   refine wpAnyIn_ready (rs := [8]) (by kernel_rfl) (by simp) ?_
   refine AllReadyIn.cons (o := { dst := some 13, op := .call { callee := .value (.func 92), args := #[.tmp 11, .tmp 12], argTypes := #[70, 173] }, type := _, pos := _, after := _, guard := _ }) rfl (fun K hK => ?_) AllReadyIn.nil
   refine (show (∀ f, _ → F.fn f) ∧ K _ _ from ⟨fun f _ => hF f, hK _ _ ?_⟩)
   clear hK K
   try simp only [Act.put, List.setIfInBounds_toArray, List.set_cons_zero, List.set_cons_succ]
   refine wpAnyIn_take (i := 9) (oi := { dst := some 14, op := .move (.tmp 13), type := _, pos := _, after := _, guard := _ }) (v := undef) hro rfl (by kernel_rfl) (by kernel_rfl) (by kernel_rfl) (fun _ _ _ h => h) ⟨Or.inr ⟨by rfl, rfl⟩, fun _ => rfl⟩ ?_
   try simp only [Act.put, List.setIfInBounds_toArray, List.set_cons_zero, List.set_cons_succ]
   refine wpAnyIn_take (i := 10) (oi := { dst := some 15, op := .move (.tmp 1), type := _, pos := _, after := _, guard := _ }) (v := undef) hro rfl (by kernel_rfl) (by kernel_rfl) (by kernel_rfl) (fun _ _ _ h => h) ⟨Or.inr ⟨by rfl, rfl⟩, fun _ => rfl⟩ ?_
   try simp only [Act.put, List.setIfInBounds_toArray, List.set_cons_zero, List.set_cons_succ]
   refine wpAnyIn_take (i := 11) (oi := { dst := some 16, op := .move (.tmp 0), type := _, pos := _, after := _, guard := _ }) (v := undef) hro rfl (by kernel_rfl) (by kernel_rfl) (by kernel_rfl) (fun _ _ _ h => h) ⟨Or.inr ⟨by rfl, rfl⟩, fun _ => rfl⟩ ?_
   try simp only [Act.put, List.setIfInBounds_toArray, List.set_cons_zero, List.set_cons_succ]
   refine wpAnyIn_take (i := 12) (oi := { dst := some 17, op := .nilCheck (.tmp 16), type := _, pos := _, after := _, guard := _ }) (v := undef) hro rfl (by kernel_rfl) (by kernel_rfl) (by kernel_rfl) (fun _ _ _ h => h) ⟨Or.inr ⟨by rfl, rfl⟩, fun _ => rfl⟩ ?_
   try simp only [Act.put, List.setIfInBounds_toArray, List.set_cons_zero, List.set_cons_succ]
   refine wpAnyIn_take (i := 13) (oi := { dst := some 18, op := .fieldAddr 168 (.tmp 17) 0, type := _, pos := _, after := _, guard := _ }) (v := undef) hro rfl (by kernel_rfl) (by kernel_rfl) (by kernel_rfl) (fun _ _ _ h => h) ⟨Or.inr ⟨by rfl, rfl⟩, fun _ => rfl⟩ ?_
   try simp only [Act.put, List.setIfInBounds_toArray, List.set_cons_zero, List.set_cons_succ]
   refine wpAnyIn_take (i := 14) (oi := { dst := some 19, op := .load 9 (.tmp 18), type := _, pos := _, after := _, guard := _ }) (v := undef) hro rfl (by kernel_rfl) (by kernel_rfl) (by kernel_rfl) (fun _ _ _ h => h) ⟨Or.inr ⟨by rfl, rfl⟩, fun _ => rfl⟩ ?_
   try simp only [Act.put, List.setIfInBounds_toArray, List.set_cons_zero, List.set_cons_succ]
   refine wpAnyIn_take (i := 15) (oi := { dst := some 20, op := .move (.tmp 0), type := _, pos := _, after := _, guard := _ }) (v := undef) hro rfl (by kernel_rfl) (by kernel_rfl) (by kernel_rfl) (fun _ _ _ h => h) ⟨Or.inr ⟨by rfl, rfl⟩, fun _ => rfl⟩ ?_
   try simp only [Act.put, List.setIfInBounds_toArray, List.set_cons_zero, List.set_cons_succ]
   refine wpAnyIn_take (i := 16) (oi := { dst := some 21, op := .nilCheck (.tmp 20), type := _, pos := _, after := _, guard := _ }) (v := undef) hro rfl (by kernel_rfl) (by kernel_rfl) (by kernel_rfl) (fun _ _ _ h => h) ⟨Or.inr ⟨by rfl, rfl⟩, fun _ => rfl⟩ ?_
   try simp only [Act.put, List.setIfInBounds_toArray, List.set_cons_zero, List.set_cons_succ]
   refine wpAnyIn_take (i := 17) (oi := { dst := some 22, op := .fieldAddr 168 (.tmp 21) 1, type := _, pos := _, after := _, guard := _ }) (v := undef) hro rfl (by kernel_rfl) (by kernel_rfl) (by kernel_rfl) (fun _ _ _ h => h) ⟨Or.inr ⟨by rfl, rfl⟩, fun _ => rfl⟩ ?_
   try simp only [Act.put, List.setIfInBounds_toArray, List.set_cons_zero, List.set_cons_succ]
   refine wpAnyIn_take (i := 18) (oi := { dst := some 23, op := .load 145 (.tmp 22), type := _, pos := _, after := _, guard := _ }) (v := undef) hro rfl (by kernel_rfl) (by kernel_rfl) (by kernel_rfl) (fun _ _ _ h => h) ⟨Or.inr ⟨by rfl, rfl⟩, fun _ => rfl⟩ ?_
   try simp only [Act.put, List.setIfInBounds_toArray, List.set_cons_zero, List.set_cons_succ]
   refine wpAnyIn_take (i := 19) (oi := { dst := some 24, op := .call { callee := .value (.tmp 15), args := #[.tmp 19, .tmp 23], argTypes := #[9, 145] }, type := _, pos := _, after := _, guard := _ }) (v := undef) hro rfl (by kernel_rfl) (by kernel_rfl) (by kernel_rfl) (fun _ _ _ h => h) ⟨Or.inr ⟨by rfl, rfl⟩, fun _ => rfl⟩ ?_
   try simp only [Act.put, List.setIfInBounds_toArray, List.set_cons_zero, List.set_cons_succ]
   refine wpAnyIn_take (i := 20) (oi := { dst := some 25, op := .pick (.tmp 14) (.tmp 24) (.const (.bool false)), type := _, pos := _, after := _, guard := _ }) (v := undef) hro rfl (by kernel_rfl) (by kernel_rfl) (by kernel_rfl) (fun _ _ _ h => h) ⟨Or.inr ⟨by rfl, rfl⟩, fun _ => rfl⟩ ?_
   try simp only [Act.put, List.setIfInBounds_toArray, List.set_cons_zero, List.set_cons_succ]
   refine wpAnyIn_take (i := 21) (oi := { dst := some 26, op := .move (.tmp 25), type := _, pos := _, after := _, guard := _ }) (v := undef) hro rfl (by kernel_rfl) (by kernel_rfl) (by kernel_rfl) (fun _ _ _ h => h) ⟨Or.inr ⟨by rfl, rfl⟩, fun _ => rfl⟩ ?_
   try simp only [Act.put, List.setIfInBounds_toArray, List.set_cons_zero, List.set_cons_succ]
   refine wpAnyIn_take (i := 22) (oi := { dst := some 27, op := .move (.tmp 0), type := _, pos := _, after := _, guard := _ }) (v := undef) hro rfl (by kernel_rfl) (by kernel_rfl) (by kernel_rfl) (fun _ _ _ h => h) ⟨Or.inr ⟨by rfl, rfl⟩, fun _ => rfl⟩ ?_
   try simp only [Act.put, List.setIfInBounds_toArray, List.set_cons_zero, List.set_cons_succ]
   refine wpAnyIn_take (i := 23) (oi := { dst := some 28, op := .nilCheck (.tmp 27), type := _, pos := _, after := _, guard := _ }) (v := undef) hro rfl (by kernel_rfl) (by kernel_rfl) (by kernel_rfl) (fun _ _ _ h => h) ⟨Or.inr ⟨by rfl, rfl⟩, fun _ => rfl⟩ ?_
   try simp only [Act.put, List.setIfInBounds_toArray, List.set_cons_zero, List.set_cons_succ]
   refine wpAnyIn_take (i := 24) (oi := { dst := some 29, op := .fieldAddr 168 (.tmp 28) 3, type := _, pos := _, after := _, guard := _ }) (v := undef) hro rfl (by kernel_rfl) (by kernel_rfl) (by kernel_rfl) (fun _ _ _ h => h) ⟨Or.inr ⟨by rfl, rfl⟩, fun _ => rfl⟩ ?_
   try simp only [Act.put, List.setIfInBounds_toArray, List.set_cons_zero, List.set_cons_succ]
   refine wpAnyIn_take (i := 25) (oi := { dst := some 30, op := .load 70 (.tmp 29), type := _, pos := _, after := _, guard := _ }) (v := undef) hro rfl (by kernel_rfl) (by kernel_rfl) (by kernel_rfl) (fun _ _ _ h => h) ⟨Or.inr ⟨by rfl, rfl⟩, fun _ => rfl⟩ ?_
   try simp only [Act.put, List.setIfInBounds_toArray, List.set_cons_zero, List.set_cons_succ]
   refine wpAnyIn_take (i := 26) (oi := { dst := some 31, op := .move (.tmp 1), type := _, pos := _, after := _, guard := _ }) (v := undef) hro rfl (by kernel_rfl) (by kernel_rfl) (by kernel_rfl) (fun _ _ _ h => h) ⟨Or.inr ⟨by rfl, rfl⟩, fun _ => rfl⟩ ?_
   try simp only [Act.put, List.setIfInBounds_toArray, List.set_cons_zero, List.set_cons_succ]
   refine wpAnyIn_ready (rs := [27]) (by kernel_rfl) (by simp) ?_
   refine AllReadyIn.cons (o := { dst := some 32, op := .call { callee := .value (.func 92), args := #[.tmp 30, .tmp 31], argTypes := #[70, 173] }, type := _, pos := _, after := _, guard := _ }) rfl (fun K hK => ?_) AllReadyIn.nil
   refine (show (∀ f, _ → F.fn f) ∧ K _ _ from ⟨fun f _ => hF f, hK _ _ ?_⟩)
   clear hK K
   try simp only [Act.put, List.setIfInBounds_toArray, List.set_cons_zero, List.set_cons_succ]
   refine wpAnyIn_take (i := 28) (oi := { dst := some 33, op := .pick (.tmp 26) (.tmp 32) (.const (.bool false)), type := _, pos := _, after := _, guard := _ }) (v := undef) hro rfl (by kernel_rfl) (by kernel_rfl) (by kernel_rfl) (fun _ _ _ h => h) ⟨Or.inr ⟨by rfl, rfl⟩, fun _ => rfl⟩ ?_
   try simp only [Act.put, List.setIfInBounds_toArray, List.set_cons_zero, List.set_cons_succ]
   refine wpAnyIn_take (i := 29) (oi := { dst := some 34, op := .pick (.tmp 7) (.const (.bool true)) (.tmp 33), type := _, pos := _, after := _, guard := _ }) (v := .bool true) hro rfl (by kernel_rfl) (by kernel_rfl) (by kernel_rfl) (fun _ _ _ h => h) ⟨Or.inl ⟨by rfl, ?_⟩, fun _ => rfl⟩ ?_
   ·intro w'
    go_simp
   try simp only [Act.put, List.setIfInBounds_toArray, List.set_cons_zero, List.set_cons_succ]
   refine wpAnyIn_take (i := 30) (oi := { dst := some 4, op := .assign (.tmp 34), type := _, pos := _, after := _, guard := _ }) (v := .bool true) hro rfl (by kernel_rfl) (by kernel_rfl) (by kernel_rfl) (fun _ _ _ h => h) ⟨Or.inl ⟨by rfl, ?_⟩, fun _ => rfl⟩ ?_
   ·intro w'
    go_simp
   try simp only [Act.put, List.setIfInBounds_toArray, List.set_cons_zero, List.set_cons_succ]
   refine wpAnyIn_done (by kernel_rfl) ?_ _
   gi_wp2
   go_ret
   exact .inl ⟨rfl, by simpa using HJ.out, Law.below_drewN (Below.refl _ W) 1⟩
 | succ sz ih =>
   intro n p pre xs W hn h hJ hN hG
   cases p with
   | none =>
     obtain rfl := h.of_nil
     exact ih n none pre [] W (Nat.zero_le _) h hJ (by simp at hN ⊢; omega) (fun _ h => by cases h)
   | some ad =>
     obtain ⟨b, pl, pr, ls, rs, k, v, rfl, rfl, hb, hi, hl, hr⟩ := h.of_some
     have c2 : W.drew.cell? ⟨b, 5, none⟩ = some (.pointer pl) := (hi.cell 5).trans rfl
     have c0 : W.cell? ⟨b, 0, none⟩ = some (.string k) := (hi.cell 0).trans rfl
     have c1 : W.cell? ⟨b, 1, none⟩ = some (.slice v.A v.n v.c) ∧ W.cell? ⟨b, 2, none⟩ = some (.int .i64 v.st) ∧ W.cell? ⟨b, 3, none⟩ = some (.int .i64 v.pr) ∧ W.cell? ⟨b, 4, none⟩ = some (.int .i64 v.lv) := val_of hi
     have c3 : W.cell? ⟨b, 6, none⟩ = some (.pointer pr) := (hi.cell 6).trans rfl
     simp only [List.length_append, List.length_cons] at hn hN
     have HQ : Hid (ls <+: ls ++ (k, v) :: rs) := List.prefix_append _ _
     have HP : Hid (ls ++ [(k, v)] <+: ls ++ (k, v) :: rs) := ⟨rs, by simp⟩
     have hr2 : ∀ W2, J (pre ++ ls ++ [(k, v)]) W2 → Below n₀ W W2 → CallsIn F (n - 1) Tryz.prog 92 #[.pointer pr, .func (.yield l) #[] #[]] W2 fun e W3 =>
       (e = .returned (.bool true) ∧ J (pre ++ (ls ++ (k, v) :: rs)) W3 ∧ Below n₀ W W3) ∨ (e = .returned (.bool false) ∧ ∃ q, q <+: ls ++ (k, v) :: rs ∧ Jx (pre ++ q) W3) := fun W2 hj hb2 =>
      (ih (n - 1) pr (pre ++ ls ++ [(k, v)]) rs W2 (by omega) (hr.under hb2) hj (by simp; omega) (fun q hq => hG q (by simp [hq]))).mono fun _ _ h => h.elim
       (fun ⟨he, hj3, hb3⟩ => .inl ⟨he, by simpa using hj3, hb2.trans hb3⟩) (fun ⟨he, q, hq, hx⟩ => .inr ⟨he, ls ++ (k, v) :: q, by obtain ⟨t, ht⟩ := hq; exact ⟨t, by simp [← ht]⟩, by simpa using hx⟩)
     have hy2 : ∀ W1, J (pre ++ ls) W1 → Below n₀ W W1 → YieldAt F (n - 1) Tryz.prog l #[.string k, .agg #[.slice v.A v.n v.c, .int .i64 v.st, .int .i64 v.pr, .int .i64 v.lv]] W1 fun e W2 =>
       (e = .returned (.bool true) ∧ W2.cell? ⟨b, 6, none⟩ = some (.pointer pr) ∧ CallsIn F (n - 1) Tryz.prog 92 #[.pointer pr, .func (.yield l) #[] #[]] W2 fun e W3 =>
        (e = .returned (.bool true) ∧ J (pre ++ (ls ++ (k, v) :: rs)) W3 ∧ Below n₀ W W3) ∨ (e = .returned (.bool false) ∧ ∃ q, q <+: ls ++ (k, v) :: rs ∧ Jx (pre ++ q) W3)) ∨
       (e = .returned (.bool false) ∧ Jx (pre ++ (ls ++ [(k, v)])) W2) := fun W1 hj1 hb1 =>
      YieldAt.mono (hY (n - 1) (pre ++ ls) (k, v) W1 hj1 (hG _ (by simp)) (by simp; omega)) fun e W2 h => h.elim
       (fun ⟨he, hj, hb2⟩ => .inl ⟨he, ((hb1.trans hb2).cell (p := ⟨b, 6, none⟩) hb).trans c3, hr2 W2 hj (hb1.trans hb2)⟩) (fun ⟨he, hx⟩ => .inr ⟨he, by simpa using hx⟩)
     have hb0 : Below n₀ W W.drew := Law.below_drewN (Below.refl _ W) 1
     have HI := Lib.hid ((ih (n - 1) pl pre ls W.drew (by omega) (hl.under hb0) (hD pre W hJ) (by omega) (fun q hq => hG q (by simp [hq]))).mono (R' := fun e W1 =>
       (e = .returned (.bool true) ∧ J (pre ++ ls) W1 ∧ Below n₀ W W1 ∧ W1.cell? ⟨b, 0, none⟩ = some (.string k) ∧ W1.cell? ⟨b, 1, none⟩ = some (.slice v.A v.n v.c) ∧ W1.cell? ⟨b, 2, none⟩ = some (.int .i64 v.st) ∧ W1.cell? ⟨b, 3, none⟩ = some (.int .i64 v.pr) ∧ W1.cell? ⟨b, 4, none⟩ = some (.int .i64 v.lv) ∧ YieldAt F (n - 1) Tryz.prog l #[.string k, .agg #[.slice v.A v.n v.c, .int .i64 v.st, .int .i64 v.pr, .int .i64 v.lv]] W1 fun e W2 =>
        (e = .returned (.bool true) ∧ W2.cell? ⟨b, 6, none⟩ = some (.pointer pr) ∧ CallsIn F (n - 1) Tryz.prog 92 #[.pointer pr, .func (.yield l) #[] #[]] W2 fun e W3 =>
         (e = .returned (.bool true) ∧ J (pre ++ (ls ++ (k, v) :: rs)) W3 ∧ Below n₀ W W3) ∨ (e = .returned (.bool false) ∧ ∃ q, q <+: ls ++ (k, v) :: rs ∧ Jx (pre ++ q) W3)) ∨
        (e = .returned (.bool false) ∧ Jx (pre ++ (ls ++ [(k, v)])) W2)) ∨
       (e = .returned (.bool false) ∧ ∃ q, q <+: ls ∧ Jx (pre ++ q) W1))
      (fun e W1 h => h.elim (fun ⟨he, hj, hb1⟩ => .inl ⟨he, hj, hb0.trans hb1, ((hb0.trans hb1).cell (p := ⟨b, 0, none⟩) hb).trans c0, ((hb0.trans hb1).cell (p := ⟨b, 1, none⟩) hb).trans c1.1, ((hb0.trans hb1).cell (p := ⟨b, 2, none⟩) hb).trans c1.2.1, ((hb0.trans hb1).cell (p := ⟨b, 3, none⟩) hb).trans c1.2.2.1, ((hb0.trans hb1).cell (p := ⟨b, 4, none⟩) hb).trans c1.2.2.2, hy2 W1 hj (hb0.trans hb1)⟩) .inr))
     clear hG hy2 hr2 ih hJ hD hY hi h hl hr c0 c1 c3 hb0
     refine callsIn_of_wp Tryz.func92 rfl (hF _) ?_ hro
     simp only [Tryz.ntmps92, List.size_toArray, List.length_cons, List.length_nil, Nat.reduceAdd, Nat.reduceSub, Array.replicate_succ, Array.replicate_zero, List.push_toArray, List.append_toArray, List.nil_append, List.cons_append]
     gi_wp2
     refine wpIn_region_any (by kernel_rfl) ?_
     change wpAnyIn _ _ _ _ _ _ _ _ _ W.drew
     refine wpAnyIn_take (i := 0) (oi := { dst := some 5, op := .move (.tmp 0), type := _, pos := _, after := _, guard := _ }) (v := .pointer (some ⟨b, 0, none⟩)) hro rfl (by kernel_rfl) (by kernel_rfl) (by kernel_rfl) (fun _ _ _ h => h) ⟨Or.inl ⟨by rfl, ?_⟩, fun _ => rfl⟩ ?_
     ·intro w'
      go_simp
     try simp only [Act.put, List.setIfInBounds_toArray, List.set_cons_zero, List.set_cons_succ]
     refine wpAnyIn_take (i := 1) (oi := { dst := some 6, op := .binOp .eql 70 (.tmp 5) (.const (.pointer none)) 70, type := _, pos := _, after := _, guard := _ }) (v := .bool false) hro rfl (by kernel_rfl) (by kernel_rfl) (by kernel_rfl) (fun _ _ _ h => h) ⟨Or.inl ⟨by rfl, ?_⟩, fun _ => rfl⟩ ?_
     ·intro w'
      go_simp
     try simp only [Act.put, List.setIfInBounds_toArray, List.set_cons_zero, List.set_cons_succ]
     refine wpAnyIn_take (i := 2) (oi := { dst := some 7, op := .move (.tmp 6), type := _, pos := _, after := _, guard := _ }) (v := .bool false) hro rfl (by kernel_rfl) (by kernel_rfl) (by kernel_rfl) (fun _ _ _ h => h) ⟨Or.inl ⟨by rfl, ?_⟩, fun _ => rfl⟩ ?_
     ·intro w'
      go_simp
     try simp only [Act.put, List.setIfInBounds_toArray, List.set_cons_zero, List.set_cons_succ]
     refine wpAnyIn_take (i := 3) (oi := { dst := some 8, op := .move (.tmp 0), type := _, pos := _, after := _, guard := _ }) (v := .pointer (some ⟨b, 0, none⟩)) hro rfl (by kernel_rfl) (by kernel_rfl) (by kernel_rfl) (fun _ _ _ h => h) ⟨Or.inl ⟨by rfl, ?_⟩, fun _ => rfl⟩ ?_
     ·intro w'
      go_simp
     try simp only [Act.put, List.setIfInBounds_toArray, List.set_cons_zero, List.set_cons_succ]
     refine wpAnyIn_take (i := 4) (oi := { dst := some 9, op := .nilCheck (.tmp 8), type := _, pos := _, after := _, guard := _ }) (v := .pointer (some ⟨b, 0, none⟩)) hro rfl (by kernel_rfl) (by kernel_rfl) (by kernel_rfl) (fun _ _ _ h => h) ⟨Or.inl ⟨by rfl, ?_⟩, fun _ => rfl⟩ ?_
     ·intro w'
      go_simp
     try simp only [Act.put, List.setIfInBounds_toArray, List.set_cons_zero, List.set_cons_succ]
     refine wpAnyIn_take (i := 5) (oi := { dst := some 10, op := .fieldAddr 168 (.tmp 9) 2, type := _, pos := _, after := _, guard := _ }) (v := .pointer (some ⟨b, 5, none⟩)) hro rfl (by kernel_rfl) (by kernel_rfl) (by kernel_rfl) (fun _ _ _ h => h) ⟨Or.inl ⟨by rfl, ?_⟩, fun _ => rfl⟩ ?_
     ·intro w'
      go_simp
     try simp only [Act.put, List.setIfInBounds_toArray, List.set_cons_zero, List.set_cons_succ]
     refine wpAnyIn_take (i := 7) (oi := { dst := some 12, op := .move (.tmp 1), type := _, pos := _, after := _, guard := _ }) (v := (.func (.yield l) #[] #[])) hro rfl (by kernel_rfl) (by kernel_rfl) (by kernel_rfl) (fun _ _ _ h => h) ⟨Or.inl ⟨by rfl, ?_⟩, fun _ => rfl⟩ ?_
     ·intro w'
      go_simp
     try simp only [Act.put, List.setIfInBounds_toArray, List.set_cons_zero, List.set_cons_succ]
     refine wpAnyIn_ready (rs := [6]) (by kernel_rfl) (by simp) ?_
     refine AllReadyIn.cons (o := { dst := some 11, op := .load 70 (.tmp 10), type := _, pos := _, after := _, guard := _ }) rfl (fun K hK => ?_) AllReadyIn.nil
     go_simp
     refine hK _ _ ?_
     clear hK K
     try simp only [Act.put, List.setIfInBounds_toArray, List.set_cons_zero, List.set_cons_succ]
     refine wpAnyIn_ready (rs := [8]) (by kernel_rfl) (by simp) ?_
     refine AllReadyIn.cons (o := { dst := some 13, op := .call { callee := .value (.func 92), args := #[.tmp 11, .tmp 12], argTypes := #[70, 173] }, type := _, pos := _, after := _, guard := _ }) rfl (fun K hK => ?_) AllReadyIn.nil
     go_simp
     refine HI.out.mono ?_
     rintro e W1 (⟨rfl, j1, K1, d0, d1, d2, d3, d4, fn, tmps, assign, body, hy, hR⟩ | ⟨rfl, q, hq, hx⟩)
     ·clear j1
      gi_wp2
      try simp only [Act.put, List.setIfInBounds_toArray, List.set_cons_zero, List.set_cons_succ]
      refine wpAnyIn_take (i := 9) (oi := { dst := some 14, op := .move (.tmp 13), type := _, pos := _, after := _, guard := _ }) (v := .bool true) hro rfl (by kernel_rfl) (by kernel_rfl) (by kernel_rfl) (fun _ _ _ h => h) ⟨Or.inl ⟨by rfl, ?_⟩, fun _ => rfl⟩ ?_
      ·intro w'
       go_simp
      try simp only [Act.put, List.setIfInBounds_toArray, List.set_cons_zero, List.set_cons_succ]
      refine wpAnyIn_take (i := 10) (oi := { dst := some 15, op := .move (.tmp 1), type := _, pos := _, after := _, guard := _ }) (v := (.func (.yield l) #[] #[])) hro rfl (by kernel_rfl) (by kernel_rfl) (by kernel_rfl) (fun _ _ _ h => h) ⟨Or.inl ⟨by rfl, ?_⟩, fun _ => rfl⟩ ?_
      ·intro w'
       go_simp
      try simp only [Act.put, List.setIfInBounds_toArray, List.set_cons_zero, List.set_cons_succ]
      refine wpAnyIn_take (i := 11) (oi := { dst := some 16, op := .move (.tmp 0), type := _, pos := _, after := _, guard := _ }) (v := .pointer (some ⟨b, 0, none⟩)) hro rfl (by kernel_rfl) (by kernel_rfl) (by kernel_rfl) (fun _ _ _ h => h) ⟨Or.inl ⟨by rfl, ?_⟩, fun _ => rfl⟩ ?_
      ·intro w'
       go_simp
      try simp only [Act.put, List.setIfInBounds_toArray, List.set_cons_zero, List.set_cons_succ]
      refine wpAnyIn_take (i := 12) (oi := { dst := some 17, op := .nilCheck (.tmp 16), type := _, pos := _, after := _, guard := _ }) (v := .pointer (some ⟨b, 0, none⟩)) hro rfl (by kernel_rfl) (by kernel_rfl) (by kernel_rfl) (fun _ _ _ h => h) ⟨Or.inl ⟨by rfl, ?_⟩, fun _ => rfl⟩ ?_
      ·intro w'
       go_simp
      try simp only [Act.put, List.setIfInBounds_toArray, List.set_cons_zero, List.set_cons_succ]
      refine wpAnyIn_take (i := 13) (oi := { dst := some 18, op := .fieldAddr 168 (.tmp 17) 0, type := _, pos := _, after := _, guard := _ }) (v := .pointer (some ⟨b, 0, none⟩)) hro rfl (by kernel_rfl) (by kernel_rfl) (by kernel_rfl) (fun _ _ _ h => h) ⟨Or.inl ⟨by rfl, ?_⟩, fun _ => rfl⟩ ?_
      ·intro w'
       go_simp
      try simp only [Act.put, List.setIfInBounds_toArray, List.set_cons_zero, List.set_cons_succ]
      refine wpAnyIn_take (i := 15) (oi := { dst := some 20, op := .move (.tmp 0), type := _, pos := _, after := _, guard := _ }) (v := .pointer (some ⟨b, 0, none⟩)) hro rfl (by kernel_rfl) (by kernel_rfl) (by kernel_rfl) (fun _ _ _ h => h) ⟨Or.inl ⟨by rfl, ?_⟩, fun _ => rfl⟩ ?_
      ·intro w'
       go_simp
      try simp only [Act.put, List.setIfInBounds_toArray, List.set_cons_zero, List.set_cons_succ]
      refine wpAnyIn_take (i := 16) (oi := { dst := some 21, op := .nilCheck (.tmp 20), type := _, pos := _, after := _, guard := _ }) (v := .pointer (some ⟨b, 0, none⟩)) hro rfl (by kernel_rfl) (by kernel_rfl) (by kernel_rfl) (fun _ _ _ h => h) ⟨Or.inl ⟨by rfl, ?_⟩, fun _ => rfl⟩ ?_
      ·intro w'
       go_simp
      try simp only [Act.put, List.setIfInBounds_toArray, List.set_cons_zero, List.set_cons_succ]
      refine wpAnyIn_take (i := 17) (oi := { dst := some 22, op := .fieldAddr 168 (.tmp 21) 1, type := _, pos := _, after := _, guard := _ }) (v := .pointer (some ⟨b, 1, none⟩)) hro rfl (by kernel_rfl) (by kernel_rfl) (by kernel_rfl) (fun _ _ _ h => h) ⟨Or.inl ⟨by rfl, ?_⟩, fun _ => rfl⟩ ?_
      ·intro w'
       go_simp
      try simp only [Act.put, List.setIfInBounds_toArray, List.set_cons_zero, List.set_cons_succ]
      refine wpAnyIn_ready (rs := [14, 18]) (by kernel_rfl) (by simp) ?_
      refine AllReadyIn.cons (o := { dst := some 19, op := .load 9 (.tmp 18), type := _, pos := _, after := _, guard := _ }) rfl (fun K hK => ?_) ?_
      ·go_simp
       refine hK _ _ ?_
       clear hK K
       try simp only [Act.put, List.setIfInBounds_toArray, List.set_cons_zero, List.set_cons_succ]
       refine wpAnyIn_ready (rs := [18]) (by kernel_rfl) (by simp) ?_
       refine AllReadyIn.cons (o := { dst := some 23, op := .load 145 (.tmp 22), type := _, pos := _, after := _, guard := _ }) rfl (fun K hK => ?_) AllReadyIn.nil
       go_simp
       refine hK _ _ ?_
       clear hK K
       try simp only [Act.put, List.setIfInBounds_toArray, List.set_cons_zero, List.set_cons_succ]
       refine wpAnyIn_ready (rs := [19]) (by kernel_rfl) (by simp) ?_
       refine AllReadyIn.cons (o := { dst := some 24, op := .call { callee := .value (.tmp 15), args := #[.tmp 19, .tmp 23], argTypes := #[9, 145] }, type := _, pos := _, after := _, guard := _ }) rfl (fun K hK => ?_) AllReadyIn.nil
       go_simp
       refine hR.mono ?_
       rintro e W2 (⟨rfl, d2, h3⟩ | ⟨rfl, hx2⟩)
       ·have H3 := Lib.hid h3
        clear h3 hR hy
        gi_wp2
        try simp only [Act.put, List.setIfInBounds_toArray, List.set_cons_zero, List.set_cons_succ]
        refine wpAnyIn_take (i := 20) (oi := { dst := some 25, op := .pick (.tmp 14) (.tmp 24) (.const (.bool false)), type := _, pos := _, after := _, guard := _ }) (v := .bool true) hro rfl (by kernel_rfl) (by kernel_rfl) (by kernel_rfl) (fun _ _ _ h => h) ⟨Or.inl ⟨by rfl, ?_⟩, fun _ => rfl⟩ ?_
        ·intro w'
         go_simp
        try simp only [Act.put, List.setIfInBounds_toArray, List.set_cons_zero, List.set_cons_succ]
        refine wpAnyIn_take (i := 21) (oi := { dst := some 26, op := .move (.tmp 25), type := _, pos := _, after := _, guard := _ }) (v := .bool true) hro rfl (by kernel_rfl) (by kernel_rfl) (by kernel_rfl) (fun _ _ _ h => h) ⟨Or.inl ⟨by rfl, ?_⟩, fun _ => rfl⟩ ?_
        ·intro w'
         go_simp
        try simp only [Act.put, List.setIfInBounds_toArray, List.set_cons_zero, List.set_cons_succ]
        refine wpAnyIn_take (i := 22) (oi := { dst := some 27, op := .move (.tmp 0), type := _, pos := _, after := _, guard := _ }) (v := .pointer (some ⟨b, 0, none⟩)) hro rfl (by kernel_rfl) (by kernel_rfl) (by kernel_rfl) (fun _ _ _ h => h) ⟨Or.inl ⟨by rfl, ?_⟩, fun _ => rfl⟩ ?_
        ·intro w'
         go_simp
        try simp only [Act.put, List.setIfInBounds_toArray, List.set_cons_zero, List.set_cons_succ]
        refine wpAnyIn_take (i := 23) (oi := { dst := some 28, op := .nilCheck (.tmp 27), type := _, pos := _, after := _, guard := _ }) (v := .pointer (some ⟨b, 0, none⟩)) hro rfl (by kernel_rfl) (by kernel_rfl) (by kernel_rfl) (fun _ _ _ h => h) ⟨Or.inl ⟨by rfl, ?_⟩, fun _ => rfl⟩ ?_
        ·intro w'
         go_simp
        try simp only [Act.put, List.setIfInBounds_toArray, List.set_cons_zero, List.set_cons_succ]
        refine wpAnyIn_take (i := 24) (oi := { dst := some 29, op := .fieldAddr 168 (.tmp 28) 3, type := _, pos := _, after := _, guard := _ }) (v := .pointer (some ⟨b, 6, none⟩)) hro rfl (by kernel_rfl) (by kernel_rfl) (by kernel_rfl) (fun _ _ _ h => h) ⟨Or.inl ⟨by rfl, ?_⟩, fun _ => rfl⟩ ?_
        ·intro w'
         go_simp
        try simp only [Act.put, List.setIfInBounds_toArray, List.set_cons_zero, List.set_cons_succ]
        refine wpAnyIn_take (i := 26) (oi := { dst := some 31, op := .move (.tmp 1), type := _, pos := _, after := _, guard := _ }) (v := (.func (.yield l) #[] #[])) hro rfl (by kernel_rfl) (by kernel_rfl) (by kernel_rfl) (fun _ _ _ h => h) ⟨Or.inl ⟨by rfl, ?_⟩, fun _ => rfl⟩ ?_
        ·intro w'
         go_simp
        try simp only [Act.put, List.setIfInBounds_toArray, List.set_cons_zero, List.set_cons_succ]
        refine wpAnyIn_ready (rs := [25]) (by kernel_rfl) (by simp) ?_
        refine AllReadyIn.cons (o := { dst := some 30, op := .load 70 (.tmp 29), type := _, pos := _, after := _, guard := _ }) rfl (fun K hK => ?_) AllReadyIn.nil
        go_simp
        refine hK _ _ ?_
        clear hK K
        try simp only [Act.put, List.setIfInBounds_toArray, List.set_cons_zero, List.set_cons_succ]
        refine wpAnyIn_ready (rs := [27]) (by kernel_rfl) (by simp) ?_
        refine AllReadyIn.cons (o := { dst := some 32, op := .call { callee := .value (.func 92), args := #[.tmp 30, .tmp 31], argTypes := #[70, 173] }, type := _, pos := _, after := _, guard := _ }) rfl (fun K hK => ?_) AllReadyIn.nil
        go_simp
        refine H3.out.mono ?_
        rintro e W3 (⟨rfl, j3, K3⟩ | ⟨rfl, q, hq, hx⟩)
        ·gi_wp2
         try simp only [Act.put, List.setIfInBounds_toArray, List.set_cons_zero, List.set_cons_succ]
         refine wpAnyIn_take (i := 28) (oi := { dst := some 33, op := .pick (.tmp 26) (.tmp 32) (.const (.bool false)), type := _, pos := _, after := _, guard := _ }) (v := .bool true) hro rfl (by kernel_rfl) (by kernel_rfl) (by kernel_rfl) (fun _ _ _ h => h) ⟨Or.inl ⟨by rfl, ?_⟩, fun _ => rfl⟩ ?_
         ·intro w'
          go_simp
         try simp only [Act.put, List.setIfInBounds_toArray, List.set_cons_zero, List.set_cons_succ]
         refine wpAnyIn_take (i := 29) (oi := { dst := some 34, op := .pick (.tmp 7) (.const (.bool true)) (.tmp 33), type := _, pos := _, after := _, guard := _ }) (v := .bool true) hro rfl (by kernel_rfl) (by kernel_rfl) (by kernel_rfl) (fun _ _ _ h => h) ⟨Or.inl ⟨by rfl, ?_⟩, fun _ => rfl⟩ ?_
         ·intro w'
          go_simp
         try simp only [Act.put, List.setIfInBounds_toArray, List.set_cons_zero, List.set_cons_succ]
         refine wpAnyIn_take (i := 30) (oi := { dst := some 4, op := .assign (.tmp 34), type := _, pos := _, after := _, guard := _ }) (v := .bool true) hro rfl (by kernel_rfl) (by kernel_rfl) (by kernel_rfl) (fun _ _ _ h => h) ⟨Or.inl ⟨by rfl, ?_⟩, fun _ => rfl⟩ ?_
         ·intro w'
          go_simp
         try simp only [Act.put, List.setIfInBounds_toArray, List.set_cons_zero, List.set_cons_succ]
         refine wpAnyIn_done (by kernel_rfl) ?_ _
         gi_wp2
         go_ret
         exact .inl ⟨rfl, j3, K3⟩
        ·gi_wp2
         try simp only [Act.put, List.setIfInBounds_toArray, List.set_cons_zero, List.set_cons_succ]
         refine wpAnyIn_take (i := 28) (oi := { dst := some 33, op := .pick (.tmp 26) (.tmp 32) (.const (.bool false)), type := _, pos := _, after := _, guard := _ }) (v := .bool false) hro rfl (by kernel_rfl) (by kernel_rfl) (by kernel_rfl) (fun _ _ _ h => h) ⟨Or.inl ⟨by rfl, ?_⟩, fun _ => rfl⟩ ?_
         ·intro w'
          go_simp
         try simp only [Act.put, List.setIfInBounds_toArray, List.set_cons_zero, List.set_cons_succ]
         refine wpAnyIn_take (i := 29) (oi := { dst := some 34, op := .pick (.tmp 7) (.const (.bool true)) (.tmp 33), type := _, pos := _, after := _, guard := _ }) (v := .bool false) hro rfl (by kernel_rfl) (by kernel_rfl) (by kernel_rfl) (fun _ _ _ h => h) ⟨Or.inl ⟨by rfl, ?_⟩, fun _ => rfl⟩ ?_
         ·intro w'
          go_simp
         try simp only [Act.put, List.setIfInBounds_toArray, List.set_cons_zero, List.set_cons_succ]
         refine wpAnyIn_take (i := 30) (oi := { dst := some 4, op := .assign (.tmp 34), type := _, pos := _, after := _, guard := _ }) (v := .bool false) hro rfl (by kernel_rfl) (by kernel_rfl) (by kernel_rfl) (fun _ _ _ h => h) ⟨Or.inl ⟨by rfl, ?_⟩, fun _ => rfl⟩ ?_
         ·intro w'
          go_simp
         try simp only [Act.put, List.setIfInBounds_toArray, List.set_cons_zero, List.set_cons_succ]
         refine wpAnyIn_done (by kernel_rfl) ?_ _
         gi_wp2
         go_ret
         exact .inr ⟨rfl, q, hq, hx⟩
       ·clear hR hy
        gi_wp2
        try simp only [Act.put, List.setIfInBounds_toArray, List.set_cons_zero, List.set_cons_succ]
        refine wpAnyIn_take (i := 20) (oi := { dst := some 25, op := .pick (.tmp 14) (.tmp 24) (.const (.bool false)), type := _, pos := _, after := _, guard := _ }) (v := .bool false) hro rfl (by kernel_rfl) (by kernel_rfl) (by kernel_rfl) (fun _ _ _ h => h) ⟨Or.inl ⟨by rfl, ?_⟩, fun _ => rfl⟩ ?_
        ·intro w'
         go_simp
        try simp only [Act.put, List.setIfInBounds_toArray, List.set_cons_zero, List.set_cons_succ]
        refine wpAnyIn_take (i := 21) (oi := { dst := some 26, op := .move (.tmp 25), type := _, pos := _, after := _, guard := _ }) (v := .bool false) hro rfl (by kernel_rfl) (by kernel_rfl) (by kernel_rfl) (fun _ _ _ h => h) ⟨Or.inl ⟨by rfl, ?_⟩, fun _ => rfl⟩ ?_
        ·intro w'
         go_simp
        try simp only [Act.put, List.setIfInBounds_toArray, List.set_cons_zero, List.set_cons_succ]
        refine wpAnyIn_take (i := 22) (oi := { dst := some 27, op := .move (.tmp 0), type := _, pos := _, after := _, guard := _ }) (v := undef) hro rfl (by kernel_rfl) (by kernel_rfl) (by kernel_rfl) (fun _ _ _ h => h) ⟨Or.inr ⟨by rfl, rfl⟩, fun _ => rfl⟩ ?_
        try simp only [Act.put, List.setIfInBounds_toArray, List.set_cons_zero, List.set_cons_succ]
        refine wpAnyIn_take (i := 23) (oi := { dst := some 28, op := .nilCheck (.tmp 27), type := _, pos := _, after := _, guard := _ }) (v := undef) hro rfl (by kernel_rfl) (by kernel_rfl) (by kernel_rfl) (fun _ _ _ h => h) ⟨Or.inr ⟨by rfl, rfl⟩, fun _ => rfl⟩ ?_
        try simp only [Act.put, List.setIfInBounds_toArray, List.set_cons_zero, List.set_cons_succ]
        refine wpAnyIn_take (i := 24) (oi := { dst := some 29, op := .fieldAddr 168 (.tmp 28) 3, type := _, pos := _, after := _, guard := _ }) (v := undef) hro rfl (by kernel_rfl) (by kernel_rfl) (by kernel_rfl) (fun _ _ _ h => h) ⟨Or.inr ⟨by rfl, rfl⟩, fun _ => rfl⟩ ?_
        try simp only [Act.put, List.setIfInBounds_toArray, List.set_cons_zero, List.set_cons_succ]
        refine wpAnyIn_take (i := 25) (oi := { dst := some 30, op := .load 70 (.tmp 29), type := _, pos := _, after := _, guard := _ }) (v := undef) hro rfl (by kernel_rfl) (by kernel_rfl) (by kernel_rfl) (fun _ _ _ h => h) ⟨Or.inr ⟨by rfl, rfl⟩, fun _ => rfl⟩ ?_
        try simp only [Act.put, List.setIfInBounds_toArray, List.set_cons_zero, List.set_cons_succ]
        refine wpAnyIn_take (i := 26) (oi := { dst := some 31, op := .move (.tmp 1), type := _, pos := _, after := _, guard := _ }) (v := undef) hro rfl (by kernel_rfl) (by kernel_rfl) (by kernel_rfl) (fun _ _ _ h => h) ⟨Or.inr ⟨by rfl, rfl⟩, fun _ => rfl⟩ ?_
        try simp only [Act.put, List.setIfInBounds_toArray, List.set_cons_zero, List.set_cons_succ]
        refine wpAnyIn_ready (rs := [27]) (by kernel_rfl) (by simp) ?_
        refine AllReadyIn.cons (o := { dst := some 32, op := .call { callee := .value (.func 92), args := #[.tmp 30, .tmp 31], argTypes := #[70, 173] }, type := _, pos := _, after := _, guard := _ }) rfl (fun K hK => ?_) AllReadyIn.nil
        refine (show (∀ f, _ → F.fn f) ∧ K _ _ from ⟨fun f _ => hF f, hK _ _ ?_⟩)
        clear hK K
        try simp only [Act.put, List.setIfInBounds_toArray, List.set_cons_zero, List.set_cons_succ]
        refine wpAnyIn_take (i := 28) (oi := { dst := some 33, op := .pick (.tmp 26) (.tmp 32) (.const (.bool false)), type := _, pos := _, after := _, guard := _ }) (v := .bool false) hro rfl (by kernel_rfl) (by kernel_rfl) (by kernel_rfl) (fun _ _ _ h => h) ⟨Or.inl ⟨by rfl, ?_⟩, fun _ => rfl⟩ ?_
        ·intro w'
         go_simp
        try simp only [Act.put, List.setIfInBounds_toArray, List.set_cons_zero, List.set_cons_succ]
        refine wpAnyIn_take (i := 29) (oi := { dst := some 34, op := .pick (.tmp 7) (.const (.bool true)) (.tmp 33), type := _, pos := _, after := _, guard := _ }) (v := .bool false) hro rfl (by kernel_rfl) (by kernel_rfl) (by kernel_rfl) (fun _ _ _ h => h) ⟨Or.inl ⟨by rfl, ?_⟩, fun _ => rfl⟩ ?_
        ·intro w'
         go_simp
        try simp only [Act.put, List.setIfInBounds_toArray, List.set_cons_zero, List.set_cons_succ]
        refine wpAnyIn_take (i := 30) (oi := { dst := some 4, op := .assign (.tmp 34), type := _, pos := _, after := _, guard := _ }) (v := .bool false) hro rfl (by kernel_rfl) (by kernel_rfl) (by kernel_rfl) (fun _ _ _ h => h) ⟨Or.inl ⟨by rfl, ?_⟩, fun _ => rfl⟩ ?_
        ·intro w'
         go_simp
        try simp only [Act.put, List.setIfInBounds_toArray, List.set_cons_zero, List.set_cons_succ]
        refine wpAnyIn_done (by kernel_rfl) ?_ _
        gi_wp2
        go_ret
        exact .inr ⟨rfl, ls ++ [(k, v)], HP.out, hx2⟩
      refine AllReadyIn.cons (o := { dst := some 23, op := .load 145 (.tmp 22), type := _, pos := _, after := _, guard := _ }) rfl (fun K hK => ?_) AllReadyIn.nil
      go_simp
      refine hK _ _ ?_
      clear hK K
      try simp only [Act.put, List.setIfInBounds_toArray, List.set_cons_zero, List.set_cons_succ]
      refine wpAnyIn_ready (rs := [14]) (by kernel_rfl) (by simp) ?_
      refine AllReadyIn.cons (o := { dst := some 19, op := .load 9 (.tmp 18), type := _, pos := _, after := _, guard := _ }) rfl (fun K hK => ?_) AllReadyIn.nil
      go_simp
      refine hK _ _ ?_
      clear hK K
      try simp only [Act.put, List.setIfInBounds_toArray, List.set_cons_zero, List.set_cons_succ]
      refine wpAnyIn_ready (rs := [19]) (by kernel_rfl) (by simp) ?_
      refine AllReadyIn.cons (o := { dst := some 24, op := .call { callee := .value (.tmp 15), args := #[.tmp 19, .tmp 23], argTypes := #[9, 145] }, type := _, pos := _, after := _, guard := _ }) rfl (fun K hK => ?_) AllReadyIn.nil
      go_simp
      refine hR.mono ?_
      rintro e W2 (⟨rfl, d2, h3⟩ | ⟨rfl, hx2⟩)
      ·have H3 := Lib.hid h3
       clear h3 hR hy
       gi_wp2
       try simp only [Act.put, List.setIfInBounds_toArray, List.set_cons_zero, List.set_cons_succ]
       refine wpAnyIn_take (i := 20) (oi := { dst := some 25, op := .pick (.tmp 14) (.tmp 24) (.const (.bool false)), type := _, pos := _, after := _, guard := _ }) (v := .bool true) hro rfl (by kernel_rfl) (by kernel_rfl) (by kernel_rfl) (fun _ _ _ h => h) ⟨Or.inl ⟨by rfl, ?_⟩, fun _ => rfl⟩ ?_
       ·intro w'
        go_simp
       try simp only [Act.put, List.setIfInBounds_toArray, List.set_cons_zero, List.set_cons_succ]
       refine wpAnyIn_take (i := 21) (oi := { dst := some 26, op := .move (.tmp 25), type := _, pos := _, after := _, guard := _ }) (v := .bool true) hro rfl (by kernel_rfl) (by kernel_rfl) (by kernel_rfl) (fun _ _ _ h => h) ⟨Or.inl ⟨by rfl, ?_⟩, fun _ => rfl⟩ ?_
       ·intro w'
        go_simp
       try simp only [Act.put, List.setIfInBounds_toArray, List.set_cons_zero, List.set_cons_succ]
       refine wpAnyIn_take (i := 22) (oi := { dst := some 27, op := .move (.tmp 0), type := _, pos := _, after := _, guard := _ }) (v := .pointer (some ⟨b, 0, none⟩)) hro rfl (by kernel_rfl) (by kernel_rfl) (by kernel_rfl) (fun _ _ _ h => h) ⟨Or.inl ⟨by rfl, ?_⟩, fun _ => rfl⟩ ?_
       ·intro w'
        go_simp
       try simp only [Act.put, List.setIfInBounds_toArray, List.set_cons_zero, List.set_cons_succ]
       refine wpAnyIn_take (i := 23) (oi := { dst := some 28, op := .nilCheck (.tmp 27), type := _, pos := _, after := _, guard := _ }) (v := .pointer (some ⟨b, 0, none⟩)) hro rfl (by kernel_rfl) (by kernel_rfl) (by kernel_rfl) (fun _ _ _ h => h) ⟨Or.inl ⟨by rfl, ?_⟩, fun _ => rfl⟩ ?_
       ·intro w'
        go_simp
       try simp only [Act.put, List.setIfInBounds_toArray, List.set_cons_zero, List.set_cons_succ]
       refine wpAnyIn_take (i := 24) (oi := { dst := some 29, op := .fieldAddr 168 (.tmp 28) 3, type := _, pos := _, after := _, guard := _ }) (v := .pointer (some ⟨b, 6, none⟩)) hro rfl (by kernel_rfl) (by kernel_rfl) (by kernel_rfl) (fun _ _ _ h => h) ⟨Or.inl ⟨by rfl, ?_⟩, fun _ => rfl⟩ ?_
       ·intro w'
        go_simp
       try simp only [Act.put, List.setIfInBounds_toArray, List.set_cons_zero, List.set_cons_succ]
       refine wpAnyIn_take (i := 26) (oi := { dst := some 31, op := .move (.tmp 1), type := _, pos := _, after := _, guard := _ }) (v := (.func (.yield l) #[] #[])) hro rfl (by kernel_rfl) (by kernel_rfl) (by kernel_rfl) (fun _ _ _ h => h) ⟨Or.inl ⟨by rfl, ?_⟩, fun _ => rfl⟩ ?_
       ·intro w'
        go_simp
       try simp only [Act.put, List.setIfInBounds_toArray, List.set_cons_zero, List.set_cons_succ]
       refine wpAnyIn_ready (rs := [25]) (by kernel_rfl) (by simp) ?_
       refine AllReadyIn.cons (o := { dst := some 30, op := .load 70 (.tmp 29), type := _, pos := _, after := _, guard := _ }) rfl (fun K hK => ?_) AllReadyIn.nil
       go_simp
       refine hK _ _ ?_
       clear hK K
       try simp only [Act.put, List.setIfInBounds_toArray, List.set_cons_zero, List.set_cons_succ]
       refine wpAnyIn_ready (rs := [27]) (by kernel_rfl) (by simp) ?_
       refine AllReadyIn.cons (o := { dst := some 32, op := .call { callee := .value (.func 92), args := #[.tmp 30, .tmp 31], argTypes := #[70, 173] }, type := _, pos := _, after := _, guard := _ }) rfl (fun K hK => ?_) AllReadyIn.nil
       go_simp
       refine H3.out.mono ?_
       rintro e W3 (⟨rfl, j3, K3⟩ | ⟨rfl, q, hq, hx⟩)
       ·gi_wp2
        try simp only [Act.put, List.setIfInBounds_toArray, List.set_cons_zero, List.set_cons_succ]
        refine wpAnyIn_take (i := 28) (oi := { dst := some 33, op := .pick (.tmp 26) (.tmp 32) (.const (.bool false)), type := _, pos := _, after := _, guard := _ }) (v := .bool true) hro rfl (by kernel_rfl) (by kernel_rfl) (by kernel_rfl) (fun _ _ _ h => h) ⟨Or.inl ⟨by rfl, ?_⟩, fun _ => rfl⟩ ?_
        ·intro w'
         go_simp
        try simp only [Act.put, List.setIfInBounds_toArray, List.set_cons_zero, List.set_cons_succ]
        refine wpAnyIn_take (i := 29) (oi := { dst := some 34, op := .pick (.tmp 7) (.const (.bool true)) (.tmp 33), type := _, pos := _, after := _, guard := _ }) (v := .bool true) hro rfl (by kernel_rfl) (by kernel_rfl) (by kernel_rfl) (fun _ _ _ h => h) ⟨Or.inl ⟨by rfl, ?_⟩, fun _ => rfl⟩ ?_
        ·intro w'
         go_simp
        try simp only [Act.put, List.setIfInBounds_toArray, List.set_cons_zero, List.set_cons_succ]
        refine wpAnyIn_take (i := 30) (oi := { dst := some 4, op := .assign (.tmp 34), type := _, pos := _, after := _, guard := _ }) (v := .bool true) hro rfl (by kernel_rfl) (by kernel_rfl) (by kernel_rfl) (fun _ _ _ h => h) ⟨Or.inl ⟨by rfl, ?_⟩, fun _ => rfl⟩ ?_
        ·intro w'
         go_simp
        try simp only [Act.put, List.setIfInBounds_toArray, List.set_cons_zero, List.set_cons_succ]
        refine wpAnyIn_done (by kernel_rfl) ?_ _
        gi_wp2
        go_ret
        exact .inl ⟨rfl, j3, K3⟩
       ·gi_wp2
        try simp only [Act.put, List.setIfInBounds_toArray, List.set_cons_zero, List.set_cons_succ]
        refine wpAnyIn_take (i := 28) (oi := { dst := some 33, op := .pick (.tmp 26) (.tmp 32) (.const (.bool false)), type := _, pos := _, after := _, guard := _ }) (v := .bool false) hro rfl (by kernel_rfl) (by kernel_rfl) (by kernel_rfl) (fun _ _ _ h => h) ⟨Or.inl ⟨by rfl, ?_⟩, fun _ => rfl⟩ ?_
        ·intro w'
         go_simp
        try simp only [Act.put, List.setIfInBounds_toArray, List.set_cons_zero, List.set_cons_succ]
        refine wpAnyIn_take (i := 29) (oi := { dst := some 34, op := .pick (.tmp 7) (.const (.bool true)) (.tmp 33), type := _, pos := _, after := _, guard := _ }) (v := .bool false) hro rfl (by kernel_rfl) (by kernel_rfl) (by kernel_rfl) (fun _ _ _ h => h) ⟨Or.inl ⟨by rfl, ?_⟩, fun _ => rfl⟩ ?_
        ·intro w'
         go_simp
        try simp only [Act.put, List.setIfInBounds_toArray, List.set_cons_zero, List.set_cons_succ]
        refine wpAnyIn_take (i := 30) (oi := { dst := some 4, op := .assign (.tmp 34), type := _, pos := _, after := _, guard := _ }) (v := .bool false) hro rfl (by kernel_rfl) (by kernel_rfl) (by kernel_rfl) (fun _ _ _ h => h) ⟨Or.inl ⟨by rfl, ?_⟩, fun _ => rfl⟩ ?_
        ·intro w'
         go_simp
        try simp only [Act.put, List.setIfInBounds_toArray, List.set_cons_zero, List.set_cons_succ]
        refine wpAnyIn_done (by kernel_rfl) ?_ _
        gi_wp2
        go_ret
        exact .inr ⟨rfl, q, hq, hx⟩
      ·clear hR hy
       gi_wp2
       try simp only [Act.put, List.setIfInBounds_toArray, List.set_cons_zero, List.set_cons_succ]
       refine wpAnyIn_take (i := 20) (oi := { dst := some 25, op := .pick (.tmp 14) (.tmp 24) (.const (.bool false)), type := _, pos := _, after := _, guard := _ }) (v := .bool false) hro rfl (by kernel_rfl) (by kernel_rfl) (by kernel_rfl) (fun _ _ _ h => h) ⟨Or.inl ⟨by rfl, ?_⟩, fun _ => rfl⟩ ?_
       ·intro w'
        go_simp
       try simp only [Act.put, List.setIfInBounds_toArray, List.set_cons_zero, List.set_cons_succ]
       refine wpAnyIn_take (i := 21) (oi := { dst := some 26, op := .move (.tmp 25), type := _, pos := _, after := _, guard := _ }) (v := .bool false) hro rfl (by kernel_rfl) (by kernel_rfl) (by kernel_rfl) (fun _ _ _ h => h) ⟨Or.inl ⟨by rfl, ?_⟩, fun _ => rfl⟩ ?_
       ·intro w'
        go_simp
       try simp only [Act.put, List.setIfInBounds_toArray, List.set_cons_zero, List.set_cons_succ]
       refine wpAnyIn_take (i := 22) (oi := { dst := some 27, op := .move (.tmp 0), type := _, pos := _, after := _, guard := _ }) (v := undef) hro rfl (by kernel_rfl) (by kernel_rfl) (by kernel_rfl) (fun _ _ _ h => h) ⟨Or.inr ⟨by rfl, rfl⟩, fun _ => rfl⟩ ?_
       try simp only [Act.put, List.setIfInBounds_toArray, List.set_cons_zero, List.set_cons_succ]
       refine wpAnyIn_take (i := 23) (oi := { dst := some 28, op := .nilCheck (.tmp 27), type := _, pos := _, after := _, guard := _ }) (v := undef) hro rfl (by kernel_rfl) (by kernel_rfl) (by kernel_rfl) (fun _ _ _ h => h) ⟨Or.inr ⟨by rfl, rfl⟩, fun _ => rfl⟩ ?_
       try simp only [Act.put, List.setIfInBounds_toArray, List.set_cons_zero, List.set_cons_succ]
       refine wpAnyIn_take (i := 24) (oi := { dst := some 29, op := .fieldAddr 168 (.tmp 28) 3, type := _, pos := _, after := _, guard := _ }) (v := undef) hro rfl (by kernel_rfl) (by kernel_rfl) (by kernel_rfl) (fun _ _ _ h => h) ⟨Or.inr ⟨by rfl, rfl⟩, fun _ => rfl⟩ ?_
       try simp only [Act.put, List.setIfInBounds_toArray, List.set_cons_zero, List.set_cons_succ]
       refine wpAnyIn_take (i := 25) (oi := { dst := some 30, op := .load 70 (.tmp 29), type := _, pos := _, after := _, guard := _ }) (v := undef) hro rfl (by kernel_rfl) (by kernel_rfl) (by kernel_rfl) (fun _ _ _ h => h) ⟨Or.inr ⟨by rfl, rfl⟩, fun _ => rfl⟩ ?_
       try simp only [Act.put, List.setIfInBounds_toArray, List.set_cons_zero, List.set_cons_succ]
       refine wpAnyIn_take (i := 26) (oi := { dst := some 31, op := .move (.tmp 1), type := _, pos := _, after := _, guard := _ }) (v := undef) hro rfl (by kernel_rfl) (by kernel_rfl) (by kernel_rfl) (fun _ _ _ h => h) ⟨Or.inr ⟨by rfl, rfl⟩, fun _ => rfl⟩ ?_
       try simp only [Act.put, List.setIfInBounds_toArray, List.set_cons_zero, List.set_cons_succ]
       refine wpAnyIn_ready (rs := [27]) (by kernel_rfl) (by simp) ?_
       refine AllReadyIn.cons (o := { dst := some 32, op := .call { callee := .value (.func 92), args := #[.tmp 30, .tmp 31], argTypes := #[70, 173] }, type := _, pos := _, after := _, guard := _ }) rfl (fun K hK => ?_) AllReadyIn.nil
       refine (show (∀ f, _ → F.fn f) ∧ K _ _ from ⟨fun f _ => hF f, hK _ _ ?_⟩)
       clear hK K
       try simp only [Act.put, List.setIfInBounds_toArray, List.set_cons_zero, List.set_cons_succ]
       refine wpAnyIn_take (i := 28) (oi := { dst := some 33, op := .pick (.tmp 26) (.tmp 32) (.const (.bool false)), type := _, pos := _, after := _, guard := _ }) (v := .bool false) hro rfl (by kernel_rfl) (by kernel_rfl) (by kernel_rfl) (fun _ _ _ h => h) ⟨Or.inl ⟨by rfl, ?_⟩, fun _ => rfl⟩ ?_
       ·intro w'
        go_simp
       try simp only [Act.put, List.setIfInBounds_toArray, List.set_cons_zero, List.set_cons_succ]
       refine wpAnyIn_take (i := 29) (oi := { dst := some 34, op := .pick (.tmp 7) (.const (.bool true)) (.tmp 33), type := _, pos := _, after := _, guard := _ }) (v := .bool false) hro rfl (by kernel_rfl) (by kernel_rfl) (by kernel_rfl) (fun _ _ _ h => h) ⟨Or.inl ⟨by rfl, ?_⟩, fun _ => rfl⟩ ?_
       ·intro w'
        go_simp
       try simp only [Act.put, List.setIfInBounds_toArray, List.set_cons_zero, List.set_cons_succ]
       refine wpAnyIn_take (i := 30) (oi := { dst := some 4, op := .assign (.tmp 34), type := _, pos := _, after := _, guard := _ }) (v := .bool false) hro rfl (by kernel_rfl) (by kernel_rfl) (by kernel_rfl) (fun _ _ _ h => h) ⟨Or.inl ⟨by rfl, ?_⟩, fun _ => rfl⟩ ?_
       ·intro w'
        go_simp
       try simp only [Act.put, List.setIfInBounds_toArray, List.set_cons_zero, List.set_cons_succ]
       refine wpAnyIn_done (by kernel_rfl) ?_ _
       gi_wp2
       go_ret
       exact .inr ⟨rfl, ls ++ [(k, v)], HP.out, hx2⟩
     ·gi_wp2
      try simp only [Act.put, List.setIfInBounds_toArray, List.set_cons_zero, List.set_cons_succ]
      refine wpAnyIn_take (i := 9) (oi := { dst := some 14, op := .move (.tmp 13), type := _, pos := _, after := _, guard := _ }) (v := .bool false) hro rfl (by kernel_rfl) (by kernel_rfl) (by kernel_rfl) (fun _ _ _ h => h) ⟨Or.inl ⟨by rfl, ?_⟩, fun _ => rfl⟩ ?_
      ·intro w'
       go_simp
      try simp only [Act.put, List.setIfInBounds_toArray, List.set_cons_zero, List.set_cons_succ]
      refine wpAnyIn_take (i := 10) (oi := { dst := some 15, op := .move (.tmp 1), type := _, pos := _, after := _, guard := _ }) (v := undef) hro rfl (by kernel_rfl) (by kernel_rfl) (by kernel_rfl) (fun _ _ _ h => h) ⟨Or.inr ⟨by rfl, rfl⟩, fun _ => rfl⟩ ?_
      try simp only [Act.put, List.setIfInBounds_toArray, List.set_cons_zero, List.set_cons_succ]
      refine wpAnyIn_take (i := 11) (oi := { dst := some 16, op := .move (.tmp 0), type := _, pos := _, after := _, guard := _ }) (v := undef) hro rfl (by kernel_rfl) (by kernel_rfl) (by kernel_rfl) (fun _ _ _ h => h) ⟨Or.inr ⟨by rfl, rfl⟩, fun _ => rfl⟩ ?_
      try simp only [Act.put, List.setIfInBounds_toArray, List.set_cons_zero, List.set_cons_succ]
      refine wpAnyIn_take (i := 12) (oi := { dst := some 17, op := .nilCheck (.tmp 16), type := _, pos := _, after := _, guard := _ }) (v := undef) hro rfl (by kernel_rfl) (by kernel_rfl) (by kernel_rfl) (fun _ _ _ h => h) ⟨Or.inr ⟨by rfl, rfl⟩, fun _ => rfl⟩ ?_
      try simp only [Act.put, List.setIfInBounds_toArray, List.set_cons_zero, List.set_cons_succ]
      refine wpAnyIn_take (i := 13) (oi := { dst := some 18, op := .fieldAddr 168 (.tmp 17) 0, type := _, pos := _, after := _, guard := _ }) (v := undef) hro rfl (by kernel_rfl) (by kernel_rfl) (by kernel_rfl) (fun _ _ _ h => h) ⟨Or.inr ⟨by rfl, rfl⟩, fun _ => rfl⟩ ?_
      try simp only [Act.put, List.setIfInBounds_toArray, List.set_cons_zero, List.set_cons_succ]
      refine wpAnyIn_take (i := 14) (oi := { dst := some 19, op := .load 9 (.tmp 18), type := _, pos := _, after := _, guard := _ }) (v := undef) hro rfl (by kernel_rfl) (by kernel_rfl) (by kernel_rfl) (fun _ _ _ h => h) ⟨Or.inr ⟨by rfl, rfl⟩, fun _ => rfl⟩ ?_
      try simp only [Act.put, List.setIfInBounds_toArray, List.set_cons_zero, List.set_cons_succ]
      refine wpAnyIn_take (i := 15) (oi := { dst := some 20, op := .move (.tmp 0), type := _, pos := _, after := _, guard := _ }) (v := undef) hro rfl (by kernel_rfl) (by kernel_rfl) (by kernel_rfl) (fun _ _ _ h => h) ⟨Or.inr ⟨by rfl, rfl⟩, fun _ => rfl⟩ ?_
      try simp only [Act.put, List.setIfInBounds_toArray, List.set_cons_zero, List.set_cons_succ]
      refine wpAnyIn_take (i := 16) (oi := { dst := some 21, op := .nilCheck (.tmp 20), type := _, pos := _, after := _, guard := _ }) (v := undef) hro rfl (by kernel_rfl) (by kernel_rfl) (by kernel_rfl) (fun _ _ _ h => h) ⟨Or.inr ⟨by rfl, rfl⟩, fun _ => rfl⟩ ?_
      try simp only [Act.put, List.setIfInBounds_toArray, List.set_cons_zero, List.set_cons_succ]
      refine wpAnyIn_take (i := 17) (oi := { dst := some 22, op := .fieldAddr 168 (.tmp 21) 1, type := _, pos := _, after := _, guard := _ }) (v := undef) hro rfl (by kernel_rfl) (by kernel_rfl) (by kernel_rfl) (fun _ _ _ h => h) ⟨Or.inr ⟨by rfl, rfl⟩, fun _ => rfl⟩ ?_
      try simp only [Act.put, List.setIfInBounds_toArray, List.set_cons_zero, List.set_cons_succ]
      refine wpAnyIn_take (i := 18) (oi := { dst := some 23, op := .load 145 (.tmp 22), type := _, pos := _, after := _, guard := _ }) (v := undef) hro rfl (by kernel_rfl) (by kernel_rfl) (by kernel_rfl) (fun _ _ _ h => h) ⟨Or.inr ⟨by rfl, rfl⟩, fun _ => rfl⟩ ?_
      try simp only [Act.put, List.setIfInBounds_toArray, List.set_cons_zero, List.set_cons_succ]
      refine wpAnyIn_take (i := 19) (oi := { dst := some 24, op := .call { callee := .value (.tmp 15), args := #[.tmp 19, .tmp 23], argTypes := #[9, 145] }, type := _, pos := _, after := _, guard := _ }) (v := undef) hro rfl (by kernel_rfl) (by kernel_rfl) (by kernel_rfl) (fun _ _ _ h => h) ⟨Or.inr ⟨by rfl, rfl⟩, fun _ => rfl⟩ ?_
      try simp only [Act.put, List.setIfInBounds_toArray, List.set_cons_zero, List.set_cons_succ]
      refine wpAnyIn_take (i := 20) (oi := { dst := some 25, op := .pick (.tmp 14) (.tmp 24) (.const (.bool false)), type := _, pos := _, after := _, guard := _ }) (v := .bool false) hro rfl (by kernel_rfl) (by kernel_rfl) (by kernel_rfl) (fun _ _ _ h => h) ⟨Or.inl ⟨by rfl, ?_⟩, fun _ => rfl⟩ ?_
      ·intro w'
       go_simp
      try simp only [Act.put, List.setIfInBounds_toArray, List.set_cons_zero, List.set_cons_succ]
      refine wpAnyIn_take (i := 21) (oi := { dst := some 26, op := .move (.tmp 25), type := _, pos := _, after := _, guard := _ }) (v := .bool false) hro rfl (by kernel_rfl) (by kernel_rfl) (by kernel_rfl) (fun _ _ _ h => h) ⟨Or.inl ⟨by rfl, ?_⟩, fun _ => rfl⟩ ?_
      ·intro w'
       go_simp
      try simp only [Act.put, List.setIfInBounds_toArray, List.set_cons_zero, List.set_cons_succ]
      refine wpAnyIn_take (i := 22) (oi := { dst := some 27, op := .move (.tmp 0), type := _, pos := _, after := _, guard := _ }) (v := undef) hro rfl (by kernel_rfl) (by kernel_rfl) (by kernel_rfl) (fun _ _ _ h => h) ⟨Or.inr ⟨by rfl, rfl⟩, fun _ => rfl⟩ ?_
      try simp only [Act.put, List.setIfInBounds_toArray, List.set_cons_zero, List.set_cons_succ]
      refine wpAnyIn_take (i := 23) (oi := { dst := some 28, op := .nilCheck (.tmp 27), type := _, pos := _, after := _, guard := _ }) (v := undef) hro rfl (by kernel_rfl) (by kernel_rfl) (by kernel_rfl) (fun _ _ _ h => h) ⟨Or.inr ⟨by rfl, rfl⟩, fun _ => rfl⟩ ?_
      try simp only [Act.put, List.setIfInBounds_toArray, List.set_cons_zero, List.set_cons_succ]
      refine wpAnyIn_take (i := 24) (oi := { dst := some 29, op := .fieldAddr 168 (.tmp 28) 3, type := _, pos := _, after := _, guard := _ }) (v := undef) hro rfl (by kernel_rfl) (by kernel_rfl) (by kernel_rfl) (fun _ _ _ h => h) ⟨Or.inr ⟨by rfl, rfl⟩, fun _ => rfl⟩ ?_
      try simp only [Act.put, List.setIfInBounds_toArray, List.set_cons_zero, List.set_cons_succ]
      refine wpAnyIn_take (i := 25) (oi := { dst := some 30, op := .load 70 (.tmp 29), type := _, pos := _, after := _, guard := _ }) (v := undef) hro rfl (by kernel_rfl) (by kernel_rfl) (by kernel_rfl) (fun _ _ _ h => h) ⟨Or.inr ⟨by rfl, rfl⟩, fun _ => rfl⟩ ?_
      try simp only [Act.put, List.setIfInBounds_toArray, List.set_cons_zero, List.set_cons_succ]
      refine wpAnyIn_take (i := 26) (oi := { dst := some 31, op := .move (.tmp 1), type := _, pos := _, after := _, guard := _ }) (v := undef) hro rfl (by kernel_rfl) (by kernel_rfl) (by kernel_rfl) (fun _ _ _ h => h) ⟨Or.inr ⟨by rfl, rfl⟩, fun _ => rfl⟩ ?_
      try simp only [Act.put, List.setIfInBounds_toArray, List.set_cons_zero, List.set_cons_succ]
      refine wpAnyIn_ready (rs := [27]) (by kernel_rfl) (by simp) ?_
      refine AllReadyIn.cons (o := { dst := some 32, op := .call { callee := .value (.func 92), args := #[.tmp 30, .tmp 31], argTypes := #[70, 173] }, type := _, pos := _, after := _, guard := _ }) rfl (fun K hK => ?_) AllReadyIn.nil
      refine (show (∀ f, _ → F.fn f) ∧ K _ _ from ⟨fun f _ => hF f, hK _ _ ?_⟩)
      clear hK K
      try simp only [Act.put, List.setIfInBounds_toArray, List.set_cons_zero, List.set_cons_succ]
      refine wpAnyIn_take (i := 28) (oi := { dst := some 33, op := .pick (.tmp 26) (.tmp 32) (.const (.bool false)), type := _, pos := _, after := _, guard := _ }) (v := .bool false) hro rfl (by kernel_rfl) (by kernel_rfl) (by kernel_rfl) (fun _ _ _ h => h) ⟨Or.inl ⟨by rfl, ?_⟩, fun _ => rfl⟩ ?_
      ·intro w'
       go_simp
      try simp only [Act.put, List.setIfInBounds_toArray, List.set_cons_zero, List.set_cons_succ]
      refine wpAnyIn_take (i := 29) (oi := { dst := some 34, op := .pick (.tmp 7) (.const (.bool true)) (.tmp 33), type := _, pos := _, after := _, guard := _ }) (v := .bool false) hro rfl (by kernel_rfl) (by kernel_rfl) (by kernel_rfl) (fun _ _ _ h => h) ⟨Or.inl ⟨by rfl, ?_⟩, fun _ => rfl⟩ ?_
      ·intro w'
       go_simp
      try simp only [Act.put, List.setIfInBounds_toArray, List.set_cons_zero, List.set_cons_succ]
      refine wpAnyIn_take (i := 30) (oi := { dst := some 4, op := .assign (.tmp 34), type := _, pos := _, after := _, guard := _ }) (v := .bool false) hro rfl (by kernel_rfl) (by kernel_rfl) (by kernel_rfl) (fun _ _ _ h => h) ⟨Or.inl ⟨by rfl, ?_⟩, fun _ => rfl⟩ ?_
      ·intro w'
       go_simp
      try simp only [Act.put, List.setIfInBounds_toArray, List.set_cons_zero, List.set_cons_succ]
      refine wpAnyIn_done (by kernel_rfl) ?_ _
      gi_wp2
      go_ret
      exact .inr ⟨rfl, q, hq.trans HQ.out, hx⟩
end OmapB
end Go.Proofs.YtohdlnefgieenaaGreat
namespace Go.Proofs.YtohdlnefgieenaaGreat
open Go.RowKit Go.Shelf
attribute [local go_sem] Oper.semAt_some
namespace OmapB
open Go.Law (EnV)
abbrev M (p : Option Addr) : Value := .agg #[.pointer p]
def MadeM (w : World) (zs : List (ByteArray × EnV)) (e : Ending) (w' : World) : Prop := ∃ p, e = .returned (M p) ∧ At w' w'.heap.size p zs ∧ Below w.heap.size w w'

set_option maxHeartbeats 1000000 in
theorem withM (k : ByteArray) (v : EnV) {w : World} {B : Nat} {p : Option Addr} {xs : List (ByteArray × EnV)} (h : At w B p xs) (hB : B ≤ w.heap.size) (hR : Law.Rises lt xs) (hx : xs.length ≤ 999) :
  Calls Tryz.prog 106 #[M p, .string k, .agg #[.slice v.A v.n v.c, .int .i64 v.st, .int .i64 v.pr, .int .i64 v.lv]] w (MadeM w (Law.putK lt k v xs)) := by
 have H := Lib.hid h
 have HR := Lib.hid hR
 clear h hR
 go_enter Tryz.func106, Tryz.ntmps106
 go_wp2_with fail
 have B0 : Below w.heap.size w (((w.alloc (.cells #[.pointer p] 72)).alloc (.cells #[.slice v.A v.n v.c, .int .i64 v.st, .int .i64 v.pr, .int .i64 v.lv] 145)).alloc (.cells #[.pointer none] 72)) := (((Below.refl _ w).alloc (Nat.le_refl _) _).alloc (by simp) _).alloc (by simp; omega) _
 refine (with_ k v xs.length _ B p xs (Nat.le_refl _) (H.out.under (B0.mono hB)) (by simp; omega) HR.out hx).mono ?_
 rintro e w1 ⟨p1, rfl, t1, b1⟩
 have I1 : Law.Is w1 (w.heap.size + 1 + 1) 72 #[.pointer none] := (Law.Is.new ((w.alloc (.cells #[.pointer p] 72)).alloc (.cells #[.slice v.A v.n v.c, .int .i64 v.st, .int .i64 v.pr, .int .i64 v.lv] 145)) 72 #[.pointer none] (by simp)).below b1 (by simp)
 have c0 := I1.cell 0
 have f0 := I1.frozen 0
 have l0 := I1.lt
 simp only [List.getElem?_toArray, List.getElem?_cons_zero] at c0
 have hb : Below w.heap.size w w1 := B0.trans (b1.mono (by simp; omega))
 have T1 := Lib.hid t1
 have HB := Lib.hid hb
 have HI := Lib.hid I1
 clear t1 hb b1 I1 B0
 go_wp2_with fail
 have T2 := Lib.hid (T1.out.far (i := 0) HI.out (by decide) (.pointer p1))
 have I2 : Law.Is (w1.setCell ⟨w.heap.size + 1 + 1, 0, none⟩ (.pointer p1)) (w.heap.size + 1 + 1) 72 #[.pointer p1] := HI.out.set 0 _ rfl
 have c2 : (w1.setCell ⟨w.heap.size + 1 + 1, 0, none⟩ (.pointer p1)).cell? ⟨w.heap.size + 1 + 1, 0, none⟩ = some (Value.pointer p1) := (I2.cell 0).trans rfl
 have B2 := Lib.hid (HB.out.setCell (p := ⟨w.heap.size + 1 + 1, 0, none⟩) (by simp; omega) (.pointer p1))
 have e2 : w1.heap.size = (w1.setCell ⟨w.heap.size + 1 + 1, 0, none⟩ (.pointer p1)).heap.size := by simp
 rw [e2] at T2
 clear c0 f0 l0 T1 HB HI e2 I2
 generalize w1.setCell ⟨w.heap.size + 1 + 1, 0, none⟩ (.pointer p1) = w2 at *
 exact bodyPost_ret (v := M p1) (by simp [results, Tryz.results106, go_sem, c2]) rfl ⟨p1, rfl, T2.out, B2.out⟩

set_option maxHeartbeats 1000000 in
theorem withoutM (k : ByteArray) {w : World} {B : Nat} {p : Option Addr} {xs : List (ByteArray × EnV)} (h : At w B p xs) (hB : B ≤ w.heap.size) (hR : Law.Rises lt xs) (hx : xs.length ≤ 999) :
  Calls Tryz.prog 105 #[M p, .string k] w (MadeM w (Law.outK k xs)) := by
 have H := Lib.hid h
 have HR := Lib.hid hR
 clear h hR
 go_enter Tryz.func105, Tryz.ntmps105
 go_wp2_with fail
 have B0 : Below w.heap.size w ((w.alloc (.cells #[.pointer p] 72)).alloc (.cells #[.pointer none] 72)) := ((Below.refl _ w).alloc (Nat.le_refl _) _).alloc (by simp) _
 refine (without xs.length k _ B p xs (Nat.le_refl _) (H.out.under (B0.mono hB)) (by simp; omega) HR.out hx).mono ?_
 rintro e w1 ⟨p1, rfl, t1, b1⟩
 have I1 : Law.Is w1 (w.heap.size + 1) 72 #[.pointer none] := (Law.Is.new (w.alloc (.cells #[.pointer p] 72)) 72 #[.pointer none] (by simp)).below b1 (by simp)
 have c0 := I1.cell 0
 have f0 := I1.frozen 0
 have l0 := I1.lt
 simp only [List.getElem?_toArray, List.getElem?_cons_zero] at c0
 have hb : Below w.heap.size w w1 := B0.trans (b1.mono (by simp; omega))
 have T1 := Lib.hid t1
 have HB := Lib.hid hb
 have HI := Lib.hid I1
 clear t1 hb b1 I1 B0
 go_wp2_with fail
 have T2 := Lib.hid (T1.out.far (i := 0) HI.out (by decide) (.pointer p1))
 have I2 : Law.Is (w1.setCell ⟨w.heap.size + 1, 0, none⟩ (.pointer p1)) (w.heap.size + 1) 72 #[.pointer p1] := HI.out.set 0 _ rfl
 have c2 : (w1.setCell ⟨w.heap.size + 1, 0, none⟩ (.pointer p1)).cell? ⟨w.heap.size + 1, 0, none⟩ = some (Value.pointer p1) := (I2.cell 0).trans rfl
 have B2 := Lib.hid (HB.out.setCell (p := ⟨w.heap.size + 1, 0, none⟩) (Nat.le_succ _) (.pointer p1))
 have e2 : w1.heap.size = (w1.setCell ⟨w.heap.size + 1, 0, none⟩ (.pointer p1)).heap.size := by simp
 rw [e2] at T2
 clear c0 f0 l0 T1 HB HI e2 I2
 generalize w1.setCell ⟨w.heap.size + 1, 0, none⟩ (.pointer p1) = w2 at *
 exact bodyPost_ret (v := M p1) (by simp [results, Tryz.results105, go_sem, c2]) rfl ⟨p1, rfl, T2.out, B2.out⟩

set_option maxHeartbeats 1000000 in
theorem get (k : ByteArray) {w : World} {B : Nat} {p : Option Addr} {xs : List (ByteArray × EnV)} (h : At w B p xs) (hB : B ≤ w.heap.size) (hR : Law.Rises lt xs) :
  Calls Tryz.prog 67 #[M p, .string k] w fun e w' => e = .returned (.tuple #[EnV.val ((Law.getK k xs).getD EnV.zero), .bool (Law.getK k xs).isSome]) ∧ Below w.heap.size w w' := by
 have H := Lib.hid h
 have HR := Lib.hid hR
 clear h hR
 go_enter Tryz.func67, Tryz.ntmps67
 go_wp2_with fail
 have B0 : Below w.heap.size w ((w.alloc (.cells #[.pointer p] 72)).alloc (.cells #[.slice none 0 0, .int .i64 0, .int .i64 0, .int .i64 0] 145)) := ((Below.refl _ w).alloc (Nat.le_refl _) _).alloc (by simp) _
 refine (find k (H.out.under (B0.mono hB)) HR.out).mono ?_
 have HB := Lib.hid B0
 clear B0
 rintro e w1 ⟨rfl, ⟨rfl, hg⟩ | ⟨b, u, rfl, hb, ⟨c1, c2, c3, c4⟩, hg⟩⟩
 ·have HG := Lib.hid hg
  clear hg
  go_wp2_with fail
  exact bodyPost_ret (v := .tuple #[EnV.val EnV.zero, .bool false]) (by simp [results, Tryz.results67, go_sem]) rfl ⟨by rw [HG.out]; rfl, HB.out.alloc (by simp; omega) _⟩
 ·have HG := Lib.hid hg
  clear hg
  go_wp2_with fail
  exact bodyPost_ret (v := .tuple #[EnV.val u, .bool true]) (by simp [results, Tryz.results67, go_sem]) rfl ⟨by rw [HG.out]; rfl, ((Below.refl _ w).alloc (Nat.le_refl _) _).alloc (by simp) _⟩

set_option maxHeartbeats 400000 in
theorem all_in (F : Fence) (n : Nat) (hF : ∀ f, F.fn f) (hro : F.round = none) (w : World) (p : Option Addr) :
  CallsIn F n Tryz.prog 71 #[M p] w fun e w' => e = .returned (.func (.func 91) #[] #[.pointer (some ⟨w.heap.size, 0, none⟩)]) ∧ w.alloc (.cells #[.pointer p] 72) = w' := by
 refine callsIn_of_wp Tryz.func71 rfl (hF _) ?_ hro
 simp only [Tryz.ntmps71, List.size_toArray, List.length_cons, List.length_nil, Nat.reduceAdd, Nat.reduceSub, Array.replicate_succ, Array.replicate_zero, List.push_toArray, List.append_toArray, List.nil_append, List.cons_append]
 gi_wp2
 go_ret
 exact ⟨rfl, rfl⟩
set_option maxRecDepth 100000 in
set_option maxHeartbeats 1000000 in
theorem all1_in (F : Fence) (hd : F.depth = none) (n : Nat) (hF : ∀ f, F.fn f) (hro : F.round = none) (l Bs n₀ : Nat) (p : Option Addr) (xs : List (ByteArray × EnV)) (J Jx : List (ByteArray × EnV) → World → Prop) (hD : ∀ pre W, J pre W → J pre W.drew)
  (hY : ∀ pre x W, J pre W → x ∈ xs → pre.length < xs.length → YieldAt F (n - 1) Tryz.prog l #[.string x.1, .agg #[.slice x.2.A x.2.n x.2.c, .int .i64 x.2.st, .int .i64 x.2.pr, .int .i64 x.2.lv]] W fun e W' =>
   (e = .returned (.bool true) ∧ J (pre ++ [x]) W' ∧ Below n₀ W W') ∨ (e = .returned (.bool false) ∧ Jx (pre ++ [x]) W'))
  (W : World) (hBs : W.cell? ⟨Bs, 0, none⟩ = some (.pointer p)) (hs : At W n₀ p xs) (h0 : J [] W) :
  CallsIn F n Tryz.prog 91 #[.func (.yield l) #[] #[], .pointer (some ⟨Bs, 0, none⟩)] W fun e W' => (∃ v, e = .returned v) ∧
   ((∃ ys, ys = xs ∧ J ys W') ∨ (∃ pre, pre <+: xs ∧ Jx pre W')) := by
 have hdd : ∀ k : Nat, (F.depth.isSome = true → 1 ≤ k) := fun k h => by rw [hd] at h; cases h
 have HP := Lib.hid (walk_in F hd hF hro l n₀ xs.length J Jx hD (· ∈ xs) (fun m pre x W hj hx hl => yield_deep hd m (hY pre x W hj hx hl)) xs.length (n - 1) p [] xs W (Nat.le_refl _) hs h0 (by simp) (fun _ h => h))
 clear hY hs h0 hD
 refine callsIn_of_wp Tryz.func91 rfl (hF _) ?_ hro
 simp only [Tryz.ntmps91, List.size_toArray, List.length_cons, List.length_nil, Nat.reduceAdd, Nat.reduceSub, Array.replicate_succ, Array.replicate_zero, List.push_toArray, List.append_toArray, List.nil_append, List.cons_append]
 gi_wp2_with ((try refine ⟨hdd _, ?_⟩); gi_at_call 92; refine HP.out.mono ?_; clear HP; rintro e W1 (⟨rfl, hJ1, _⟩ | ⟨rfl, q, hq, hx⟩))
 ·go_end0
  exact ⟨⟨_, rfl⟩, .inl ⟨_, rfl, by simpa using hJ1⟩⟩
 ·go_end0
  exact ⟨⟨_, rfl⟩, .inr ⟨q, hq, by simpa using hx⟩⟩
theorem grown_drew (W : World) : W.grownBy W.drew none := ⟨rfl, rfl, rfl, Nat.le_refl _, fun _ _ _ => rfl⟩
theorem all_stops (F : Fence) (hd : F.depth = none) (n : Nat) (hF : ∀ f, F.fn f) (hro : F.round = none) (Bs n₀ : Nat) (p : Option Addr) (xs : List (ByteArray × EnV)) (w : World) (hBs : Bs < w.heap.size) (hn₀ : n₀ ≤ w.heap.size)
  (hc : w.cell? ⟨Bs, 0, none⟩ = some (.pointer p)) (hs : At w n₀ p xs) :
  SeqStopsK F n Tryz.prog 91 #[.pointer (some ⟨Bs, 0, none⟩)] (fun x : {x : ByteArray × EnV // x ∈ xs} => #[Value.string x.1.1, Value.agg #[.slice x.1.2.A x.1.2.n x.1.2.c, .int .i64 x.1.2.st, .int .i64 x.1.2.pr, .int .i64 x.1.2.lv]]) (Below n₀) (fun ys => ys.map (·.1) = xs) (fun pre => pre.map (·.1) <+: xs) xs.length w := fun l J Jx W hW hJ _ hY h0 => by
 refine (all1_in F hd n hF hro l Bs n₀ p xs (fun ys W => ∃ zs : List {x // x ∈ xs}, zs.map (·.1) = ys ∧ J zs W) (fun ys W => ∃ zs : List {x // x ∈ xs}, zs.map (·.1) = ys ∧ Jx zs W) (fun pre W' ⟨zs, e, h⟩ => ⟨zs, e, hJ zs W' _ none h (grown_drew W') (fun r e => by cases e)⟩) (fun pre x W1 ⟨zs, e, h⟩ hx hl => ?_) W ((hW.cell (p := ⟨Bs, 0, none⟩) hBs).trans hc) (hs.under (hW.mono hn₀)) ⟨[], rfl, h0⟩).mono ?_
 ·subst e
  refine YieldAt.mono (hY zs ⟨x, hx⟩ W1 h (by simpa using hl)) fun e W2 h => h.elim (fun ⟨he, hj, hb⟩ => .inl ⟨he, ⟨_, by simp, hj⟩, hb⟩) (fun ⟨he, hj⟩ => .inr ⟨he, ⟨_, by simp, hj⟩⟩)
 ·rintro e W' ⟨hv, ⟨ys, rfl, zs, hz, hj⟩ | ⟨pre, hp, zs, rfl, hj⟩⟩
  ·exact ⟨hv, .inl ⟨zs, hz, hj⟩⟩
  ·exact ⟨hv, .inr ⟨zs, hp, hj⟩⟩
end OmapB
end Go.Proofs.YtohdlnefgieenaaGreat
namespace Go.Law
end Go.Law
namespace Go.Proofs.YtohdlnefgieenaaGreat
open Go.RowKit
namespace OmapB
open Go.Law (EnV)
end OmapB
end Go.Proofs.YtohdlnefgieenaaGreat
