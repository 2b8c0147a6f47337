/-
  What the reference's (layer 9) Drain comes to.
-/
import Derived.Test.YtdkjcheannehhaaFeed13
namespace Go.Proofs.Ytdkjcheannehhaa
open Go.RowKit Go.Shelf
attribute [local go_sem] Oper.semAt_some
namespace Feed
open Go.Law
theorem RefAt.congr {w : World} {R : Nat → Prop} {r : Nat} {room : Int} {ps : List Pa} {qs qs' : Nat → List Ev} {ls ls' : Nat → Bool} (h : RefAt w R r room ps qs ls) (h1 : ∀ k, qs k = qs' k) (h2 : ∀ k, ls k = ls' k) : RefAt w R r room ps qs' ls' := by
  obtain rfl : qs = qs' := funext h1
  obtain rfl : ls = ls' := funext h2
  exact h
/-- a queue is put -/
theorem RefV.queue {w : World} {R R' : Nat → Prop} {r k : Nat} {room : Int} {ps : List Pa} {qs : Nat → List Ev} {ls : Nat → Bool} {vp : Value} {vq : Nat → Value} (h : RefV w R r room ps qs ls vp vq) (hk : k < 8) {zs : List Ev} {A : Option Addr} {c : Nat} (hs : LieR R' w A (flatE zs)) (hR : ∀ n, R n → R' n) (hr : ¬ R' r) (hok : ∀ n, R' n → n < w.heap.size) :
    RefV (w.setCell ⟨r, 2 + k, none⟩ (.slice A zs.length c)) R' r room ps (upd qs k zs) ls vp (upd vq k (.slice A zs.length c)) := by
  have ht := Law.Touch.store (T := fun n => n = r) w ⟨r, 2 + k, none⟩ (.slice A zs.length c) rfl
  refine ⟨h.box.set _ _ (cellsRf_setq _ _ _ _ _ hk), hr, fun n hn => by simpa using hok n hn, ?_, fun i hi => ?_⟩
  · obtain ⟨A, c, e, hl⟩ := h.pr
    exact ⟨A, c, e, (hl.touch ht (fun n hn e => h.out (e ▸ hn)) h.ok).mono hR⟩
  · by_cases e : i = k
    · subst e
      exact ⟨A, c, by rw [upd_same, upd_same], by rw [upd_same]; exact hs.touch ht (fun n hn e => hr (e ▸ hn)) hok⟩
    · obtain ⟨A', c', e', hl⟩ := h.qu i hi
      exact ⟨A', c', by rw [upd_other _ _ e, upd_other _ _ e]; exact e', by rw [upd_other _ _ e]; exact (hl.touch ht (fun n hn e => h.out (e ▸ hn)) h.ok).mono hR⟩
theorem RefV.mark {w : World} {R : Nat → Prop} {r k : Nat} {room : Int} {ps : List Pa} {qs : Nat → List Ev} {ls : Nat → Bool} {vp : Value} {vq : Nat → Value} (h : RefV w R r room ps qs ls vp vq) (hk : k < 8) (b : Bool) :
    RefV (w.setCell ⟨r, 10 + k, none⟩ (.bool b)) R r room ps qs (upd ls k b) vp vq := by
  have ht := Law.Touch.store (T := fun n => n = r) w ⟨r, 10 + k, none⟩ (.bool b) rfl
  refine ⟨h.box.set _ _ (cellsRf_setl _ _ _ _ _ hk), h.out, fun n hn => by simpa using h.ok n hn, ?_, fun i hi => ?_⟩
  · obtain ⟨A, c, e, hl⟩ := h.pr
    exact ⟨A, c, e, hl.touch ht (fun n hn e => h.out (e ▸ hn)) h.ok⟩
  · obtain ⟨A', c', e', hl⟩ := h.qu i hi
    exact ⟨A', c', e', hl.touch ht (fun n hn e => h.out (e ▸ hn)) h.ok⟩
/-- behind a Drain -/
def RDrained (w : World) (R : Nat → Prop) (r k : Nat) (room : Int) (ps : List Pa) (qs : Nat → List Ev) (ls : Nat → Bool) (e : Ending) (w' : World) : Prop :=
  ∃ A c, e = .returned (.tuple #[.slice A (qs k).length c, .bool (ls k)]) ∧ LieR R w' A (flatE (qs k)) ∧ RefAt w' R r room ps (upd qs k []) (upd ls k false) ∧ RWent w R r w' R
set_option maxRecDepth 100000 in
set_option maxHeartbeats 2000000 in
theorem rDrain {w : World} {R : Nat → Prop} {r k : Nat} {room : Int} {ps : List Pa} {qs : Nat → List Ev} {ls : Nat → Bool} (h : RefAt w R r room ps qs ls) (hk : k < 8) :
    Calls Try.prog 14 #[.pointer (some ⟨r, 0, none⟩), .int .i64 (k : Int)] w (RDrained w R r k room ps qs ls) := by
  obtain ⟨vp, vq, h⟩ := h
  obtain ⟨A, c, hq, hl⟩ := h.qu k hk
  have HV := Lib.hid h
  have HL := Lib.hid hl
  have d1 : decide ((k : Int) < 0) = false := by simp
  have d2 : decide (7 < (k : Int)) = false := by simp; omega
  have c1 : w.cell? ⟨r, 2 + k, none⟩ = some (.slice A (qs k).length c) := (h.box.cell _).trans (by have := cellsRf_q room vp vq ls hk; rw [hq] at this; simpa using this)
  have c2 : w.cell? ⟨r, 10 + k, none⟩ = some (.bool (ls k)) := (h.box.cell _).trans (by simpa using cellsRf_l room vp vq ls hk)
  have f1 := h.box.frozen (2 + k)
  have f2 := h.box.frozen (10 + k)
  have l1 := h.box.lt
  have hk7 : k ≤ 7 := by omega
  clear h hq hl
  go_enter Try.func14, Try.ntmps14
  go_wp2_with fail
  go_quiet (fail)
  have hbq : Below w.heap.size w (w.drewN nq) := Law.below_drewN (Below.refl _ w) nq
  have HBQ := Lib.hid hbq
  have HV2 := Lib.hid (HV.out.below hbq)
  have HL2 : Hid (LieR R (w.drewN nq) A (flatE (qs k))) := HL.out.touch (Law.Touch.of_below hbq fun _ => False) (fun _ _ h => h) HV.out.ok
  have c3 : (w.drewN nq).cell? ⟨r, 2 + k, none⟩ = some (.slice A (qs k).length c) := c1
  have c4 : (w.drewN nq).cell? ⟨r, 10 + k, none⟩ = some (.bool (ls k)) := c2
  have f3 := HV2.out.box.frozen (2 + k)
  have f4 := HV2.out.box.frozen (10 + k)
  have l3 := HV2.out.box.lt
  clear hbq HV HL c1 c2 f1 f2 l1
  generalize w.drewN nq = W2 at *
  go_wp2_with fail
  refine wp_region_held_drew (S := fun _ => True) (by kernel_rfl) trivial (fun hS0 => ?_)
  refine wpAnyH_take (i := 0) (oi := { dst := some 26, op := .move (.tmp 0), type := _, pos := _, after := _, guard := _ }) (v := .pointer (some ⟨r, 0, none⟩)) rfl (by kernel_rfl) (by kernel_rfl) (by kernel_rfl) (fun _ _ _ h => h) (Or.inl ⟨by rfl, ?_⟩) hS0 ?_
  · intro w' hSw
    go_simp
  try simp only [Act.put, List.setIfInBounds_toArray, List.set_cons_zero, List.set_cons_succ]
  refine wpAnyH_take (i := 1) (oi := { dst := some 27, op := .move (.tmp 1), type := _, pos := _, after := _, guard := _ }) (v := .int .i64 (k : Int)) rfl (by kernel_rfl) (by kernel_rfl) (by kernel_rfl) (fun _ _ _ h => h) (Or.inl ⟨by rfl, ?_⟩) hS0 ?_
  · intro w' hSw
    go_simp
  try simp only [Act.put, List.setIfInBounds_toArray, List.set_cons_zero, List.set_cons_succ]
  refine wpAnyH_take (i := 2) (oi := { dst := some 28, op := .move (.tmp 0), type := _, pos := _, after := _, guard := _ }) (v := .pointer (some ⟨r, 0, none⟩)) rfl (by kernel_rfl) (by kernel_rfl) (by kernel_rfl) (fun _ _ _ h => h) (Or.inl ⟨by rfl, ?_⟩) hS0 ?_
  · intro w' hSw
    go_simp
  try simp only [Act.put, List.setIfInBounds_toArray, List.set_cons_zero, List.set_cons_succ]
  refine wpAnyH_take (i := 3) (oi := { dst := some 29, op := .move (.tmp 1), type := _, pos := _, after := _, guard := _ }) (v := .int .i64 (k : Int)) rfl (by kernel_rfl) (by kernel_rfl) (by kernel_rfl) (fun _ _ _ h => h) (Or.inl ⟨by rfl, ?_⟩) hS0 ?_
  · intro w' hSw
    go_simp
  try simp only [Act.put, List.setIfInBounds_toArray, List.set_cons_zero, List.set_cons_succ]
  refine wpAnyH_take (i := 4) (oi := { dst := some 30, op := .nilCheck (.tmp 26), type := _, pos := _, after := _, guard := _ }) (v := .pointer (some ⟨r, 0, none⟩)) rfl (by kernel_rfl) (by kernel_rfl) (by kernel_rfl) (fun _ _ _ h => h) (Or.inl ⟨by rfl, ?_⟩) hS0 ?_
  · intro w' hSw
    go_simp
  try simp only [Act.put, List.setIfInBounds_toArray, List.set_cons_zero, List.set_cons_succ]
  refine wpAnyH_take (i := 5) (oi := { dst := some 31, op := .fieldAddr 33 (.tmp 30) 2, type := _, pos := _, after := _, guard := _ }) (v := .pointer (some ⟨r, 2, none⟩)) rfl (by kernel_rfl) (by kernel_rfl) (by kernel_rfl) (fun _ _ _ h => h) (Or.inl ⟨by rfl, ?_⟩) hS0 ?_
  · intro w' hSw
    go_simp
  try simp only [Act.put, List.setIfInBounds_toArray, List.set_cons_zero, List.set_cons_succ]
  refine wpAnyH_take (i := 6) (oi := { dst := some 32, op := .indexAddr 30 (.tmp 31) (.tmp 27), type := _, pos := _, after := _, guard := _ }) (v := .pointer (some ⟨r, 2 + k, none⟩)) rfl (by kernel_rfl) (by kernel_rfl) (by kernel_rfl) (fun _ _ _ h => h) (Or.inl ⟨by rfl, ?_⟩) hS0 ?_
  · intro w' hSw
    go_simp; (try (intro h8; omega))
  try simp only [Act.put, List.setIfInBounds_toArray, List.set_cons_zero, List.set_cons_succ]
  refine wpAnyH_take (i := 8) (oi := { dst := some 33, op := .nilCheck (.tmp 28), type := _, pos := _, after := _, guard := _ }) (v := .pointer (some ⟨r, 0, none⟩)) rfl (by kernel_rfl) (by kernel_rfl) (by kernel_rfl) (fun _ _ _ h => h) (Or.inl ⟨by rfl, ?_⟩) hS0 ?_
  · intro w' hSw
    go_simp
  try simp only [Act.put, List.setIfInBounds_toArray, List.set_cons_zero, List.set_cons_succ]
  refine wpAnyH_take (i := 9) (oi := { dst := some 34, op := .fieldAddr 33 (.tmp 33) 3, type := _, pos := _, after := _, guard := _ }) (v := .pointer (some ⟨r, 10, none⟩)) rfl (by kernel_rfl) (by kernel_rfl) (by kernel_rfl) (fun _ _ _ h => h) (Or.inl ⟨by rfl, ?_⟩) hS0 ?_
  · intro w' hSw
    go_simp
  try simp only [Act.put, List.setIfInBounds_toArray, List.set_cons_zero, List.set_cons_succ]
  refine wpAnyH_ready (rs := [7]) (by kernel_rfl) (by simp) ?_
  refine AllReadyH.cons (o := { dst := none, op := .store 29 (.tmp 32) (.const (.slice none 0 0)), type := _, pos := _, after := _, guard := _ }) rfl (fun K hK => ?_) AllReadyH.nil
  go_simp
  refine hK.out _ _ trivial (fun hS1 => ?_)
  clear hK K
  try simp only [Act.put, List.setIfInBounds_toArray, List.set_cons_zero, List.set_cons_succ]
  refine wpAnyH_take (i := 10) (oi := { dst := some 35, op := .indexAddr 31 (.tmp 34) (.tmp 29), type := _, pos := _, after := _, guard := _ }) (v := .pointer (some ⟨r, 10 + k, none⟩)) rfl (by kernel_rfl) (by kernel_rfl) (by kernel_rfl) (fun _ _ _ h => h) (Or.inl ⟨by rfl, ?_⟩) hS1 ?_
  · intro w' hSw
    go_simp; (try (intro h8; omega))
  try simp only [Act.put, List.setIfInBounds_toArray, List.set_cons_zero, List.set_cons_succ]
  refine wpAnyH_ready (rs := [11]) (by kernel_rfl) (by simp) ?_
  refine AllReadyH.cons (o := { dst := none, op := .store 4 (.tmp 35) (.const (.bool false)), type := _, pos := _, after := _, guard := _ }) rfl (fun K hK => ?_) AllReadyH.nil
  go_simp
  refine hK.out _ _ trivial (fun hS2 => ?_)
  clear hK K
  try simp only [Act.put, List.setIfInBounds_toArray, List.set_cons_zero, List.set_cons_succ]
  refine wpAnyH_done (by kernel_rfl) ?_ _
  go_wp2_with fail
  go_ret2
  have hq := (HV2.out.queue hk (zs := []) (A := none) (c := 0) (R' := R) (fun h => absurd rfl h) (fun _ h => h) HV2.out.out HV2.out.ok).mark hk false
  have ht : Law.Touch W2 ((W2.setCell ⟨r, 2 + k, none⟩ (.slice none 0 0)).setCell ⟨r, 10 + k, none⟩ (.bool false)) (fun n => n = r) := (Law.Touch.store (T := fun n => n = r) W2 ⟨r, 2 + k, none⟩ _ rfl).trans (Law.Touch.store (T := fun n => n = r) _ ⟨r, 10 + k, none⟩ _ rfl) (fun _ h => .inl h)
  obtain ⟨W3, hW3⟩ : ∃ W3, (W2.setCell ⟨r, 2 + k, none⟩ (.slice none 0 0)).setCell ⟨r, 10 + k, none⟩ (.bool false) = W3 := ⟨_, rfl⟩
  rw [show (W2.setCell ⟨r, 2 + k, none⟩ (.slice none ([] : List Ev).length 0)).setCell ⟨r, 10 + k, none⟩ (.bool false) = W3 from hW3] at hq
  rw [hW3] at ht ⊢
  have hd : Below W3.heap.size W3 W3.drew := Law.below_drewN (Below.refl _ W3) 1
  have hl := HL2.out.touch ht (fun n hn e => HV2.out.out (e ▸ hn)) HV2.out.ok
  exact ⟨A, c, rfl, hl.touch (Law.Touch.of_below hd fun _ => False) (fun _ _ h => h) hq.ok, ⟨_, _, hq.below hd⟩, (RWent.of_below HBQ.out).trans (RWent.trans ⟨ht, fun _ h => .inl h⟩ (RWent.of_below hd))⟩
set_option maxHeartbeats 1000000 in
theorem rDrain_no {who : Int} (h : ¬ (0 ≤ who ∧ who < 8)) (r : Nat) (w : World) :
    Calls Try.prog 14 #[.pointer (some ⟨r, 0, none⟩), .int .i64 who] w fun e w' => e = .returned (.tuple #[.slice none 0 0, .bool false]) ∧ w = w' := by
  by_cases h0 : who < 0
  · have d1 : decide (who < 0) = true := by simpa using h0
    go_enter Try.func14, Try.ntmps14
    go_wp2_with fail
    go_ret2
    exact ⟨rfl, rfl⟩
  · have d1 : decide (who < 0) = false := by simp; omega
    have d2 : decide (7 < who) = true := by simp; omega
    go_enter Try.func14, Try.ntmps14
    go_wp2_with fail
    go_ret2
    exact ⟨rfl, rfl⟩
end Feed
end Go.Proofs.Ytdkjcheannehhaa
