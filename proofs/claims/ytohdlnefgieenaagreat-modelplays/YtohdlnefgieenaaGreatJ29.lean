/-
  What the reference's (layer 9) Drain comes to.
-/
import Derived.Test.YtohdlnefgieenaaGreatJ28
import Derived.Test.YtohdlnefgieenaaGreatJ25
import Derived.Test.YtohdlnefgieenaaGreatJ21
import Derived.Test.YtohdlnefgieenaaGreatJ3
namespace Go.Proofs.YtohdlnefgieenaaGreat
open Go.RowKit Go.Shelf
attribute [local go_sem] Oper.semAt_some
namespace Feed
open Go.Law
theorem RefAt.congr {w : World} {R : Nat → Prop} {r : Nat} {room : Int} {ps : List Pa} {qs qs' : Nat → List Ev} {ls ls' : Nat → Bool} (h : RefAt w R r room ps qs ls) (h1 : ∀ k, qs k = qs' k) (h2 : ∀ k, ls k = ls' k) : RefAt w R r room ps qs' ls' := by
  obtain rfl : qs = qs' := funext h1
  obtain rfl : ls = ls' := funext h2
  exact h
/-- a queue is put -/
theorem RefV.queue {w : World} {R R' : Nat → Prop} {r k : Nat} {room : Int} {ps : List Pa} {qs : Nat → List Ev} {ls : Nat → Bool} {vp : Value} {vq : Nat → Value} (h : RefV w R r room ps qs ls vp vq) (hk : k < 8) {zs : List Ev} {A : Option Addr} {c : Nat} (hs : LieR R' w A (flatE zs)) (hR : ∀ n, R n → R' n) (hr : ¬ R' r) (hok : ∀ n, R' n → n < w.heap.size) (hcz : zs.length ≤ c) :
    RefV (w.setCell ⟨r, 2 + k, none⟩ (.slice A zs.length c)) R' r room ps (upd qs k zs) ls vp (upd vq k (.slice A zs.length c)) := by
  have ht := Law.Touch.store (T := fun n => n = r) w ⟨r, 2 + k, none⟩ (.slice A zs.length c) rfl
  refine ⟨h.box.set _ _ (cellsRf_setq _ _ _ _ _ hk), hr, fun n hn => by simpa using hok n hn, ?_, fun i hi => ?_, fun i hi A' n' c' e' => ?_⟩
  · obtain ⟨A, c, e, hl⟩ := h.pr
    exact ⟨A, c, e, (hl.touch ht (fun n hn e => h.out (e ▸ hn)) h.ok).mono hR⟩
  · by_cases e : i = k
    · subst e
      exact ⟨A, c, by rw [upd_same, upd_same], by rw [upd_same]; exact hs.touch ht (fun n hn e => hr (e ▸ hn)) hok⟩
    · obtain ⟨A', c', e', hl⟩ := h.qu i hi
      exact ⟨A', c', by rw [upd_other _ _ e, upd_other _ _ e]; exact e', by rw [upd_other _ _ e]; exact (hl.touch ht (fun n hn e => h.out (e ▸ hn)) h.ok).mono hR⟩
  · by_cases e : i = k
    · subst e
      rw [upd_same] at e'
      injection e' with _ e2 e3
      omega
    · rw [upd_other _ _ e] at e'
      exact h.cap i hi A' n' c' e'
theorem RefV.mark {w : World} {R : Nat → Prop} {r k : Nat} {room : Int} {ps : List Pa} {qs : Nat → List Ev} {ls : Nat → Bool} {vp : Value} {vq : Nat → Value} (h : RefV w R r room ps qs ls vp vq) (hk : k < 8) (b : Bool) :
    RefV (w.setCell ⟨r, 10 + k, none⟩ (.bool b)) R r room ps qs (upd ls k b) vp vq := by
  have ht := Law.Touch.store (T := fun n => n = r) w ⟨r, 10 + k, none⟩ (.bool b) rfl
  refine ⟨h.box.set _ _ (cellsRf_setl _ _ _ _ _ hk), h.out, fun n hn => by simpa using h.ok n hn, ?_, fun i hi => ?_, h.cap⟩
  · obtain ⟨A, c, e, hl⟩ := h.pr
    exact ⟨A, c, e, hl.touch ht (fun n hn e => h.out (e ▸ hn)) h.ok⟩
  · obtain ⟨A', c', e', hl⟩ := h.qu i hi
    exact ⟨A', c', e', hl.touch ht (fun n hn e => h.out (e ▸ hn)) h.ok⟩
/-- behind a Drain; the list has room for itself -/
def RDrainedC (w : World) (R : Nat → Prop) (r k : Nat) (room : Int) (ps : List Pa) (qs : Nat → List Ev) (ls : Nat → Bool) (e : Ending) (w' : World) : Prop :=
  ∃ A c, e = .returned (.tuple #[.slice A (qs k).length c, .bool (ls k)]) ∧ (qs k).length ≤ c ∧ LieR R w' A (flatE (qs k)) ∧ RefAt w' R r room ps (upd qs k []) (upd ls k false) ∧ RWent w R r w' R
/-- behind a Drain -/
def RDrained (w : World) (R : Nat → Prop) (r k : Nat) (room : Int) (ps : List Pa) (qs : Nat → List Ev) (ls : Nat → Bool) (e : Ending) (w' : World) : Prop :=
  ∃ A c, e = .returned (.tuple #[.slice A (qs k).length c, .bool (ls k)]) ∧ LieR R w' A (flatE (qs k)) ∧ RefAt w' R r room ps (upd qs k []) (upd ls k false) ∧ RWent w R r w' R
set_option maxRecDepth 100000 in
set_option maxHeartbeats 2000000 in
theorem rDrainC {w : World} {R : Nat → Prop} {r k : Nat} {room : Int} {ps : List Pa} {qs : Nat → List Ev} {ls : Nat → Bool} (h : RefAt w R r room ps qs ls) (hk : k < 8) :
    Calls Tryz.prog 32 #[.pointer (some ⟨r, 0, none⟩), .int .i64 (k : Int)] w (RDrainedC w R r k room ps qs ls) := by
  obtain ⟨vp, vq, h⟩ := h
  obtain ⟨A, c, hq, hl⟩ := h.qu k hk
  have hcap := h.cap k hk _ _ _ hq
  have HV := Lib.hid h
  have HL := Lib.hid hl
  have d1 : decide ((k : Int) < 0) = false := by simp
  have d2 : decide (7 < (k : Int)) = false := by simp; omega
  have c1 : w.cell? ⟨r, 2 + k, none⟩ = some (.slice A (qs k).length c) := (h.box.cell _).trans (by have := cellsRf_q room vp vq ls hk; rw [hq] at this; simpa using this)
  have c2 : w.cell? ⟨r, 10 + k, none⟩ = some (.bool (ls k)) := (h.box.cell _).trans (by simpa using cellsRf_l room vp vq ls hk)
  have f1 := h.box.frozen (2 + k)
  have f2 := h.box.frozen (10 + k)
  have l1 := h.box.lt
  have hk7 : k ≤ 7 := by omega
  clear h hq hl
  go_enter Tryz.func32, Tryz.ntmps32
  go_wp2_with fail
  go_quiet (fail)
  have hbq : Below w.heap.size w (w.drewN nq) := Law.below_drewN (Below.refl _ w) nq
  have HBQ := Lib.hid hbq
  have HV2 := Lib.hid (HV.out.below hbq)
  have HL2 : Hid (LieR R (w.drewN nq) A (flatE (qs k))) := HL.out.touch (Law.Touch.of_below hbq fun _ => False) (fun _ _ h => h) HV.out.ok
  have c3 : (w.drewN nq).cell? ⟨r, 2 + k, none⟩ = some (.slice A (qs k).length c) := c1
  have c4 : (w.drewN nq).cell? ⟨r, 10 + k, none⟩ = some (.bool (ls k)) := c2
  have f3 := HV2.out.box.frozen (2 + k)
  have f4 := HV2.out.box.frozen (10 + k)
  have l3 := HV2.out.box.lt
  clear hbq HV HL c1 c2 f1 f2 l1
  generalize w.drewN nq = W2 at *
  go_wp2_with fail
  refine wp_region_held_drew (S := fun _ => True) (by kernel_rfl) trivial (fun hS0 => ?_)
  refine wpAnyH_take (i := 0) (oi := { dst := some 26, op := .move (.tmp 0), type := _, pos := _, after := _, guard := _ }) (v := .pointer (some ⟨r, 0, none⟩)) rfl (by kernel_rfl) (by kernel_rfl) (by kernel_rfl) (fun _ _ _ h => h) (Or.inl ⟨by rfl, ?_⟩) hS0 ?_
  · intro w' hSw
    go_simp
  try simp only [Act.put, List.setIfInBounds_toArray, List.set_cons_zero, List.set_cons_succ]
  refine wpAnyH_take (i := 1) (oi := { dst := some 27, op := .move (.tmp 1), type := _, pos := _, after := _, guard := _ }) (v := .int .i64 (k : Int)) rfl (by kernel_rfl) (by kernel_rfl) (by kernel_rfl) (fun _ _ _ h => h) (Or.inl ⟨by rfl, ?_⟩) hS0 ?_
  · intro w' hSw
    go_simp
  try simp only [Act.put, List.setIfInBounds_toArray, List.set_cons_zero, List.set_cons_succ]
  refine wpAnyH_take (i := 2) (oi := { dst := some 28, op := .move (.tmp 0), type := _, pos := _, after := _, guard := _ }) (v := .pointer (some ⟨r, 0, none⟩)) rfl (by kernel_rfl) (by kernel_rfl) (by kernel_rfl) (fun _ _ _ h => h) (Or.inl ⟨by rfl, ?_⟩) hS0 ?_
  · intro w' hSw
    go_simp
  try simp only [Act.put, List.setIfInBounds_toArray, List.set_cons_zero, List.set_cons_succ]
  refine wpAnyH_take (i := 3) (oi := { dst := some 29, op := .move (.tmp 1), type := _, pos := _, after := _, guard := _ }) (v := .int .i64 (k : Int)) rfl (by kernel_rfl) (by kernel_rfl) (by kernel_rfl) (fun _ _ _ h => h) (Or.inl ⟨by rfl, ?_⟩) hS0 ?_
  · intro w' hSw
    go_simp
  try simp only [Act.put, List.setIfInBounds_toArray, List.set_cons_zero, List.set_cons_succ]
  refine wpAnyH_take (i := 4) (oi := { dst := some 30, op := .nilCheck (.tmp 26), type := _, pos := _, after := _, guard := _ }) (v := .pointer (some ⟨r, 0, none⟩)) rfl (by kernel_rfl) (by kernel_rfl) (by kernel_rfl) (fun _ _ _ h => h) (Or.inl ⟨by rfl, ?_⟩) hS0 ?_
  · intro w' hSw
    go_simp
  try simp only [Act.put, List.setIfInBounds_toArray, List.set_cons_zero, List.set_cons_succ]
  refine wpAnyH_take (i := 5) (oi := { dst := some 31, op := .fieldAddr 81 (.tmp 30) 2, type := _, pos := _, after := _, guard := _ }) (v := .pointer (some ⟨r, 2, none⟩)) rfl (by kernel_rfl) (by kernel_rfl) (by kernel_rfl) (fun _ _ _ h => h) (Or.inl ⟨by rfl, ?_⟩) hS0 ?_
  · intro w' hSw
    go_simp
  try simp only [Act.put, List.setIfInBounds_toArray, List.set_cons_zero, List.set_cons_succ]
  refine wpAnyH_take (i := 6) (oi := { dst := some 32, op := .indexAddr 78 (.tmp 31) (.tmp 27), type := _, pos := _, after := _, guard := _ }) (v := .pointer (some ⟨r, 2 + k, none⟩)) rfl (by kernel_rfl) (by kernel_rfl) (by kernel_rfl) (fun _ _ _ h => h) (Or.inl ⟨by rfl, ?_⟩) hS0 ?_
  · intro w' hSw
    go_simp; (try (intro h8; omega))
  try simp only [Act.put, List.setIfInBounds_toArray, List.set_cons_zero, List.set_cons_succ]
  refine wpAnyH_take (i := 8) (oi := { dst := some 33, op := .nilCheck (.tmp 28), type := _, pos := _, after := _, guard := _ }) (v := .pointer (some ⟨r, 0, none⟩)) rfl (by kernel_rfl) (by kernel_rfl) (by kernel_rfl) (fun _ _ _ h => h) (Or.inl ⟨by rfl, ?_⟩) hS0 ?_
  · intro w' hSw
    go_simp
  try simp only [Act.put, List.setIfInBounds_toArray, List.set_cons_zero, List.set_cons_succ]
  refine wpAnyH_take (i := 9) (oi := { dst := some 34, op := .fieldAddr 81 (.tmp 33) 3, type := _, pos := _, after := _, guard := _ }) (v := .pointer (some ⟨r, 10, none⟩)) rfl (by kernel_rfl) (by kernel_rfl) (by kernel_rfl) (fun _ _ _ h => h) (Or.inl ⟨by rfl, ?_⟩) hS0 ?_
  · intro w' hSw
    go_simp
  try simp only [Act.put, List.setIfInBounds_toArray, List.set_cons_zero, List.set_cons_succ]
  refine wpAnyH_ready (rs := [7]) (by kernel_rfl) (by simp) ?_
  refine AllReadyH.cons (o := { dst := none, op := .store 41 (.tmp 32) (.const (.slice none 0 0)), type := _, pos := _, after := _, guard := _ }) rfl (fun K hK => ?_) AllReadyH.nil
  go_simp
  refine hK.out _ _ trivial (fun hS1 => ?_)
  clear hK K
  try simp only [Act.put, List.setIfInBounds_toArray, List.set_cons_zero, List.set_cons_succ]
  refine wpAnyH_take (i := 10) (oi := { dst := some 35, op := .indexAddr 79 (.tmp 34) (.tmp 29), type := _, pos := _, after := _, guard := _ }) (v := .pointer (some ⟨r, 10 + k, none⟩)) rfl (by kernel_rfl) (by kernel_rfl) (by kernel_rfl) (fun _ _ _ h => h) (Or.inl ⟨by rfl, ?_⟩) hS1 ?_
  · intro w' hSw
    go_simp; (try (intro h8; omega))
  try simp only [Act.put, List.setIfInBounds_toArray, List.set_cons_zero, List.set_cons_succ]
  refine wpAnyH_ready (rs := [11]) (by kernel_rfl) (by simp) ?_
  refine AllReadyH.cons (o := { dst := none, op := .store 4 (.tmp 35) (.const (.bool false)), type := _, pos := _, after := _, guard := _ }) rfl (fun K hK => ?_) AllReadyH.nil
  go_simp
  refine hK.out _ _ trivial (fun hS2 => ?_)
  clear hK K
  try simp only [Act.put, List.setIfInBounds_toArray, List.set_cons_zero, List.set_cons_succ]
  refine wpAnyH_done (by kernel_rfl) ?_ _
  go_wp2_with fail
  go_ret2
  have hq := (HV2.out.queue hk (zs := []) (A := none) (c := 0) (R' := R) (fun h => absurd rfl h) (fun _ h => h) HV2.out.out HV2.out.ok (Nat.le_refl _)).mark hk false
  have ht : Law.Touch W2 ((W2.setCell ⟨r, 2 + k, none⟩ (.slice none 0 0)).setCell ⟨r, 10 + k, none⟩ (.bool false)) (fun n => n = r) := (Law.Touch.store (T := fun n => n = r) W2 ⟨r, 2 + k, none⟩ _ rfl).trans (Law.Touch.store (T := fun n => n = r) _ ⟨r, 10 + k, none⟩ _ rfl) (fun _ h => .inl h)
  obtain ⟨W3, hW3⟩ : ∃ W3, (W2.setCell ⟨r, 2 + k, none⟩ (.slice none 0 0)).setCell ⟨r, 10 + k, none⟩ (.bool false) = W3 := ⟨_, rfl⟩
  rw [show (W2.setCell ⟨r, 2 + k, none⟩ (.slice none ([] : List Ev).length 0)).setCell ⟨r, 10 + k, none⟩ (.bool false) = W3 from hW3] at hq
  rw [hW3] at ht ⊢
  have hd : Below W3.heap.size W3 W3.drew := Law.below_drewN (Below.refl _ W3) 1
  have hl := HL2.out.touch ht (fun n hn e => HV2.out.out (e ▸ hn)) HV2.out.ok
  exact ⟨A, c, rfl, hcap, hl.touch (Law.Touch.of_below hd fun _ => False) (fun _ _ h => h) hq.ok, ⟨_, _, hq.below hd⟩, (RWent.of_below HBQ.out).trans (RWent.trans ⟨ht, fun _ h => .inl h⟩ (RWent.of_below hd))⟩
theorem rDrain {w : World} {R : Nat → Prop} {r k : Nat} {room : Int} {ps : List Pa} {qs : Nat → List Ev} {ls : Nat → Bool} (h : RefAt w R r room ps qs ls) (hk : k < 8) :
    Calls Tryz.prog 32 #[.pointer (some ⟨r, 0, none⟩), .int .i64 (k : Int)] w (RDrained w R r k room ps qs ls) :=
  (rDrainC h hk).mono fun _ _ ⟨A, c, h1, _, h2, h3, h4⟩ => ⟨A, c, h1, h2, h3, h4⟩
set_option maxHeartbeats 1000000 in
theorem rDrain_no {who : Int} (h : ¬ (0 ≤ who ∧ who < 8)) (r : Nat) (w : World) :
    Calls Tryz.prog 32 #[.pointer (some ⟨r, 0, none⟩), .int .i64 who] w fun e w' => e = .returned (.tuple #[.slice none 0 0, .bool false]) ∧ w = w' := by
  by_cases h0 : who < 0
  · have d1 : decide (who < 0) = true := by simpa using h0
    go_enter Tryz.func32, Tryz.ntmps32
    go_wp2_with fail
    go_ret2
    exact ⟨rfl, rfl⟩
  · have d1 : decide (who < 0) = false := by simp; omega
    have d2 : decide (7 < who) = true := by simp; omega
    go_enter Tryz.func32, Tryz.ntmps32
    go_wp2_with fail
    go_ret2
    exact ⟨rfl, rfl⟩
end Feed
end Go.Proofs.YtohdlnefgieenaaGreat
/-
  What the reference's (layer 9) Tell of any number of changes comes to. (Laid by wip/mktell2.py.)
-/
namespace Go.Proofs.YtohdlnefgieenaaGreat
open Go.RowKit Go.Shelf
attribute [local go_sem] Oper.semAt_some
namespace Feed
open Go.Law
theorem RWent.is {w w' : World} {R R' : Nat → Prop} {r g : Nat} {t t' : TypeId} {cs cr : Array Value} (h : RWent w R r w' R') (hi : Is w g t cs) (hr : Is w r t' cr) (ht : t ≠ t') : Is w' g t cs := h.touch.is hi (hi.type_ne hr ht)
theorem seq_box {w : World} {g : Nat} {t : TypeId} {x : Ev} (h : Is w g t x.box) : Seq w g (g + 1) (some ⟨g, 0, none⟩) (cellsE x) := fun _ => ⟨g, 0, rfl, Nat.le_refl _, Nat.lt_succ_self _, fun i u hu => by rw [Nat.zero_add, h.cell]; simpa [cellsE] using hu⟩
theorem own_emptyN (w : World) {base : Nat} (e : TypeId) (hb : base ≤ w.heap.size) : (w.alloc (.cells #[] e)).ownsRow base e 8 (.slice (some ⟨w.heap.size, 0, none⟩) 0 0) 0 [] :=
  ⟨rfl, .inr ⟨w.heap.size, 0, #[], rfl, hb, heap_alloc_new w _, Nat.le_refl _, Nat.zero_le _, rfl, rfl⟩⟩
/-- one more went into a queue -/
theorem room_left {w w' : World} {R : Nat → Prop} {r k : Nat} {room : Int} {ps : List Pa} {qs : Nat → List Ev} {ls : Nat → Bool} {vp : Value} {vq : Nat → Value} (h : RefV w R r room ps qs ls vp vq) (hk : k < 8) (hb : Below w.heap.size w w') {A : Option Addr} {c n : Nat} {zs : List Ev} (ho : w'.ownsRow w.heap.size 63 8 (.slice A n c) n (flatE zs)) (hn : n = zs.length := by simp) :
    ∃ R', RefAt (w'.setCell ⟨r, 2 + k, none⟩ (.slice A n c)) R' r room ps (upd qs k zs) ls ∧ RWent w R r (w'.setCell ⟨r, 2 + k, none⟩ (.slice A n c)) R' := by
  subst hn
  have hcz : zs.length ≤ c := by obtain ⟨A', c', e, hc⟩ := own_shape ho; injection e with e1 e2 e3; subst e3; exact hc
  have h1 := h.below hb
  have hlt := h.box.lt
  have hout : ¬ (R r ∨ w.heap.size ≤ r ∧ r < w'.heap.size) := fun h' => h'.elim h.out (fun h' => by omega)
  refine ⟨fun n => R n ∨ w.heap.size ≤ n ∧ n < w'.heap.size, ⟨_, _, h1.queue hk (LieR.of_seq (Seq.own ho) (fun n h1 h2 => .inr ⟨h1, h2⟩)) (fun n hn => .inl hn) hout (fun n hn => hn.elim (h1.ok n) And.right) hcz⟩, ⟨(Law.Touch.of_below hb _).trans (Law.Touch.store (T := fun k => k = r) w' ⟨r, 2 + k, none⟩ _ rfl) (fun _ hk => .inl hk), fun n hn => hn.imp id And.left⟩⟩
/-- on the way of a Tell: told to the clients below k -/
def TellI (w : World) (R : Nat → Prop) (r : Nat) (room : Int) (ps : List Pa) (s : St) (e : Ev) (i : Value) (wx : World) : Prop := ∃ k : Nat, k ≤ 8 ∧ i = .int .i64 k ∧ ∃ R', RefAt wx R' r room ps (s.upto room.toNat e k).que (s.upto room.toNat e k).los ∧ RWent w R r wx R'
/-- the change q lies in block gl, from o on, which is a block of changes -/
def ChAt (w : World) (gl o : Nat) (q : Cg) : Prop := ∃ cs, Is w gl 131 cs ∧ ∀ i u, (cellsG q)[i]? = some u → cs[o + i]? = some u
section
variable {w w' : World} {gl o r : Nat} {q : Cg} {R R' : Nat → Prop}
theorem ChAt.cg (h : ChAt w gl o q) : CgAt w gl o q := by
  obtain ⟨cs, hi, hc⟩ := h
  have f : ∀ i u, (cellsG q)[i]? = some u → w.cell? ⟨gl, o + i, none⟩ = some u := fun i u hu => (hi.cell _).trans (hc i u hu)
  obtain ⟨us, o1, o2, o3, n1, n2, n3⟩ := q
  have f0 := f 0 (.string us) rfl
  exact ⟨f0, f 1 (.int .i64 o1) rfl, f 2 (.int .i64 o2) rfl, f 3 (.int .i64 o3) rfl, f 4 (.int .i64 n1) rfl, f 5 (.int .i64 n2) rfl, f 6 (.int .i64 n3) rfl⟩
theorem ChAt.lt (h : ChAt w gl o q) : gl < w.heap.size := by obtain ⟨cs, hi, _⟩ := h; exact hi.lt
theorem ChAt.below (h : ChAt w gl o q) (hb : Below w.heap.size w w') : ChAt w' gl o q := by
  obtain ⟨cs, hi, hc⟩ := h
  exact ⟨cs, hi.below hb hi.lt, hc⟩
theorem ChAt.went (h : ChAt w gl o q) (hW : RWent w R r w' R') {cr : Array Value} (hr : Is w r 81 cr) : ChAt w' gl o q := by
  obtain ⟨cs, hi, hc⟩ := h
  exact ⟨cs, hW.is hi hr (by decide), hc⟩
theorem ChAt.ne (h : ChAt w gl o q) {cr : Array Value} (hr : Is w r 81 cr) : gl ≠ r := by
  obtain ⟨cs, hi, hc⟩ := h
  exact hi.type_ne hr (by decide)
/-- out of a slice of changes -/
theorem ChAt.of {A : Option Addr} {cgs : List Cg} (h : Lain 131 w A (flatG cgs)) {j : Nat} (hj : j < cgs.length) : ∃ gl ol, A = some ⟨gl, ol, none⟩ ∧ ChAt w gl (ol + j * 7) cgs[j] := by
  have hl : (flatG cgs).length = cgs.length * 7 := rows_length (cells := cellsG) (fun _ => rfl) cgs
  obtain ⟨g, off, cs, e, hi, hc⟩ := h (by intro h0; rw [h0] at hl; simp at hl; omega)
  refine ⟨g, off, e, cs, hi, fun i u hu => ?_⟩
  have hi7 : i < 7 := (List.getElem?_eq_some_iff.1 hu).1
  have e2 : (flatG cgs)[j * 7 + i]? = (cellsG cgs[j])[i]? := rows_at cellsG (fun _ => rfl) (List.getElem?_eq_getElem hj) hi7
  have := hc (j * 7 + i) u (e2.trans hu)
  rwa [← Nat.add_assoc] at this
end
theorem tell_step (room : Nat) (s : St) (cgs : List Cg) (seq : Int) {j : Nat} (hj : j < cgs.length) : s.tell room (cgs.take (j + 1)) seq = (s.tell room (cgs.take j) seq).upto room (cgs[j].ev seq) 8 := by
  unfold St.tell; rw [List.take_succ_eq_append_getElem hj, List.foldl_append, List.foldl_cons, List.foldl_nil]
theorem tell_has (room : Nat) (seq : Int) (k : Nat) (u : ByteArray) : ∀ (l : List Cg) (s : St), (s.tell room l seq).has k u = s.has k u
  | [], _ => rfl
  | c :: r, s => by
    show ((s.upto room (c.ev seq) 8).tell room r seq).has k u = _
    rw [tell_has room seq k u r, upto_has]
theorem tellN_wat (room : Nat) (seq : Int) : ∀ (l : List Cg) (s : St), (s.tell room l seq).wat = s.wat
  | [], _ => rfl
  | c :: r, s => by
    show ((s.upto room (c.ev seq) 8).tell room r seq).wat = _
    rw [tellN_wat room seq r, upto_wat]
set_option maxRecDepth 100000 in
set_option maxHeartbeats 4000000 in
theorem rTellN {w : World} {R : Nat → Prop} {r c : Nat} {room : Int} {ps : List Pa} {s0 : St} (h : RefAt w R r room ps s0.que s0.los) {Ac : Option Addr} (cgs : List Cg) (seq : Int) (hg : Lain 131 w Ac (flatG cgs)) (hm : ∀ n, n < 8 → ∀ u, (s0.has n u = true ↔ ((n : Int), u) ∈ ps)) (hp : ps.length ≤ 1000) (hq : ∀ n, n < 8 → (s0.que n).length + cgs.length ≤ 500) :
    Calls Tryz.prog 30 #[.pointer (some ⟨r, 0, none⟩), .slice Ac cgs.length c, .int .u64 seq] w (RDone w R r room ps (s0.tell room.toNat cgs seq).que (s0.tell room.toNat cgs seq).los) := by
  obtain ⟨i0, hE⟩ := RingE.elem
  have HE := Lib.hid hE
  have HA := Lib.hid h
  have HLC := Lib.hid hg
  have HM0 := Lib.hid hm
  have HQ0 := Lib.hid hq
  have HRI : Hid (∃ cr, Is w r 81 cr) := by obtain ⟨_, _, h⟩ := h; exact ⟨_, h.box⟩
  clear h hg hm hq hE
  go_enter Tryz.func30, Tryz.ntmps30
  go_wp2_with fail
  go_loopw [6] (fun i wr => ∃ j : Nat, j ≤ cgs.length ∧ i = .int .i64 j ∧ ∃ R', RefAt wr R' r room ps (s0.tell room.toNat (cgs.take j) seq).que (s0.tell room.toNat (cgs.take j) seq).los ∧ RWent w R r wr R') (fun i _ => cgs.length - (intOf i).toNat)
  case atStart => exact ⟨0, Nat.zero_le _, rfl, R, HA.out, RWent.of_below (Below.refl _ _)⟩
  case round =>
    obtain ⟨j, hj, rfl, R1, hA, hW⟩ := hrel
    have HA1 := Lib.hid hA
    have HW1 := Lib.hid hW
    clear hA hW HA
    by_cases hlt : j < cgs.length
    · have d0 : decide ((j : Int) < (cgs.length : Int)) = true := by simp; omega
      have hcl : cgs.length ≤ 500 := by have := HQ0.out 0 (by decide); omega
      obtain ⟨gl, ol, rfl, hch⟩ := ChAt.of HLC.out hlt
      have HG := Lib.hid hch
      have HST := Lib.hid (tell_step room.toNat s0 cgs seq hlt)
      have HM : Hid (∀ n, n < 8 → ∀ u, ((s0.tell room.toNat (cgs.take j) seq).has n u = true ↔ ((n : Int), u) ∈ ps)) := fun n hn u => by rw [tell_has]; exact HM0.out n hn u
      have HQ : Hid (∀ n, n < 8 → ((s0.tell room.toNat (cgs.take j) seq).que n).length ≤ 500) := fun n hn => by
        have h1 := tell_le room.toNat seq n (cgs.take j) s0
        have h2 := HQ0.out n hn
        simp only [List.length_take] at h1
        omega
      generalize s0.tell room.toNat (cgs.take j) seq = s at *
      generalize cgs[j] = cg at *
      clear hch
      go_wp2_with fail
      go_loopw [7] (fun i wx => TellI w R r room ps s (cg.ev seq) i wx) (fun i _ => 8 - (intOf i).toNat)
      case atStart => exact ⟨0, Nat.zero_le _, rfl, R1, HA1.out, HW1.out⟩
      case round =>
        clear HA1 HW1
        obtain ⟨k, hk8, rfl, R2, hA, hW⟩ := hrel
        have HA2 := Lib.hid hA
        have HW2 := Lib.hid hW
        clear hA hW
        by_cases hk : k < 8
        · have d1 : decide ((k : Int) < 8) = true := by simp; omega
          obtain ⟨cr, hcr⟩ := HRI.out
          have HG2 := Lib.hid (HG.out.went HW2.out hcr)
          obtain ⟨y0, y1, y2, y3, y4, y5, y6⟩ := HG2.out.cg
          have lg := HG2.out.lt
          have HHS : Hid ((s.upto room.toNat (cg.ev seq) k).has k cg.us = true ↔ ((k : Int), cg.us) ∈ ps) := by show _ ↔ _; rw [upto_has]; exact HM.out k hk cg.us
          have HE1 : Hid (s.upto room.toNat (cg.ev seq) (k + 1) = (s.upto room.toNat (cg.ev seq) k).put1 room.toNat k (cg.ev seq)) := rfl
          have hql : ((s.upto room.toNat (cg.ev seq) k).que k).length ≤ 501 := by have h1 := upto_le room.toNat s (cg.ev seq) k k; have h2 := HQ.out k hk; omega
          generalize s.upto room.toNat (cg.ev seq) k = s1 at *
          have HRW := Lib.hid (rWatching HA2.out hp (k : Int) cg.us (res := s1.has k cg.us) HHS.out)
          clear hcr
          go_wp2_with fail
          refine HRW.out.mono ?_
          rintro e w3 ⟨rfl, hb⟩
          have HA3 := Lib.hid (HA2.out.below hb)
          have HW3 := Lib.hid (HW2.out.trans (RWent.of_below (R := R2) (r := r) hb))
          have HG3 := Lib.hid (HG2.out.below hb)
          have hbs := hb.size
          clear hb HRW HA2 HW2 y0 y1 y2 y3 y4 y5 y6
          cases hh : s1.has k cg.us with
          | false =>
            have HS : Hid (s1.put1 room.toNat k (cg.ev seq) = s1) := by show _ = _; unfold St.put1; rw [if_neg (by rw [hh]; simp)]
            go_wp2_with fail
            go_roundw
            case rel =>
              exact ⟨k + 1, by omega, by go_num, R2, by rw [HE1.out, HS.out]; exact HA3.out, HW3.out⟩
            case measure => simp [intOf]; omega
          | true =>
            have HS : Hid (s1.put1 room.toNat k (cg.ev seq) = { s1 with que := upd s1.que k (putL room.toNat (s1.que k) (cg.ev seq)), los := upd s1.los k (s1.los k || decide (room.toNat ≤ (s1.que k).length)) }) := by show _ = _; unfold St.put1; rw [if_pos hh]
            obtain ⟨vp, vq, hv⟩ := HA3.out
            obtain ⟨A, cq, hqv, hlq⟩ := hv.qu k hk
            have c1 : w3.cell? ⟨r, 2 + k, none⟩ = some (.slice A (s1.que k).length cq) := (hv.box.cell _).trans (by have := cellsRf_q room vp vq s1.los hk; rw [hqv] at this; simpa using this)
            have c2 : w3.cell? ⟨r, 0, none⟩ = some (.int .i64 room) := hv.box.cell' rfl
            have c3 : w3.cell? ⟨r, 10 + k, none⟩ = some (.bool (s1.los k)) := (hv.box.cell _).trans (by simpa using cellsRf_l room vp vq s1.los hk)
            have f1 := hv.box.frozen (2 + k)
            have f3 := hv.box.frozen (10 + k)
            have l1 := hv.box.lt
            have hk7 : k ≤ 7 := by omega
            have HV := Lib.hid hv
            have HLQ := Lib.hid hlq
            obtain ⟨y0, y1, y2, y3, y4, y5, y6⟩ := HG3.out.cg
            have lg3 := HG3.out.lt
            clear hv hqv hlq HA3
            by_cases hfull : room ≤ ((s1.que k).length : Int)
            · have d2 : decide (room ≤ ((s1.que k).length : Int)) = true := by simpa using hfull
              have HFU : Hid (putL room.toNat (s1.que k) (cg.ev seq) = s1.que k ∧ (s1.los k || decide (room.toNat ≤ (s1.que k).length)) = true) := by
                refine ⟨putL_no (by omega), ?_⟩
                rw [Bool.or_eq_true]; right; simp; omega
              go_wp2_with fail
              go_quiet (fail)
              have hbq : Below w3.heap.size w3 (w3.drewN nq) := Law.below_drewN (Below.refl _ w3) nq
              have HV4 := Lib.hid (HV.out.below hbq)
              have HW4 := Lib.hid (HW3.out.trans (RWent.of_below (R := R2) (r := r) hbq))
              have HG4 := Lib.hid (HG3.out.below hbq)
              have HL4 : Hid (LieR R2 (w3.drewN nq) A (flatE (s1.que k))) := HLQ.out.touch (Law.Touch.of_below hbq fun _ => False) (fun _ _ h => h) HV.out.ok
              have a1 : (w3.drewN nq).cell? ⟨r, 2 + k, none⟩ = some (.slice A (s1.que k).length cq) := c1
              have a3 : (w3.drewN nq).cell? ⟨r, 10 + k, none⟩ = some (.bool (s1.los k)) := c3
              clear hbq HV HW3 HG3 HLQ c1 c2 c3 f1 f3 l1 y0 y1 y2 y3 y4 y5 y6 lg3
              generalize w3.drewN nq = W4 at *
              have f1 := HV4.out.box.frozen (2 + k)
              have f3 := HV4.out.box.frozen (10 + k)
              have l1 := HV4.out.box.lt
              obtain ⟨y0, y1, y2, y3, y4, y5, y6⟩ := HG4.out.cg
              have lg3 := HG4.out.lt
              have HMK := Lib.hid (HV4.out.mark hk true)
              have HTM : Hid (RWent W4 R2 r (W4.setCell ⟨r, 10 + k, none⟩ (.bool true)) R2) := ⟨Law.Touch.store (T := fun n => n = r) W4 ⟨r, 10 + k, none⟩ _ rfl, fun _ h => .inl h⟩
              go_wp2_with fail
              go_roundw
              case rel =>
                refine ⟨k + 1, by omega, by go_num, R2, ?_, HW4.out.trans HTM.out⟩
                rw [HE1.out, HS.out]
                refine RefAt.congr ⟨_, _, HMK.out⟩ (fun i => ?_) (fun i => ?_)
                · show _ = upd s1.que k _ i
                  rw [HFU.out.1]
                  by_cases e : i = k
                  · subst e; rw [upd_same]
                  · rw [upd_other _ _ e]
                · show _ = upd s1.los k _ i
                  rw [HFU.out.2]
              case measure => simp [intOf]; omega
            · have d2 : decide (room ≤ ((s1.que k).length : Int)) = false := by simpa using hfull
              go_wp2_with fail
              go_quiet (fail)
              have hbq : Below w3.heap.size w3 (w3.drewN nq) := Law.below_drewN (Below.refl _ w3) nq
              have HV4 := Lib.hid (HV.out.below hbq)
              have HW4 := Lib.hid (HW3.out.trans (RWent.of_below (R := R2) (r := r) hbq))
              have HG4 := Lib.hid (HG3.out.below hbq)
              have HL4 : Hid (LieR R2 (w3.drewN nq) A (flatE (s1.que k))) := HLQ.out.touch (Law.Touch.of_below hbq fun _ => False) (fun _ _ h => h) HV.out.ok
              have a1 : (w3.drewN nq).cell? ⟨r, 2 + k, none⟩ = some (.slice A (s1.que k).length cq) := c1
              have a3 : (w3.drewN nq).cell? ⟨r, 10 + k, none⟩ = some (.bool (s1.los k)) := c3
              clear hbq HV HW3 HG3 HLQ c1 c2 c3 f1 f3 l1 y0 y1 y2 y3 y4 y5 y6 lg3
              generalize w3.drewN nq = W4 at *
              have f1 := HV4.out.box.frozen (2 + k)
              have f3 := HV4.out.box.frozen (10 + k)
              have l1 := HV4.out.box.lt
              obtain ⟨y0, y1, y2, y3, y4, y5, y6⟩ := HG4.out.cg
              have lg3 := HG4.out.lt
              have HFU : Hid (putL room.toNat (s1.que k) (cg.ev seq) = s1.que k ++ [cg.ev seq] ∧ (s1.los k || decide (room.toNat ≤ (s1.que k).length)) = s1.los k) := by
                refine ⟨putL_yes (by omega), ?_⟩
                rw [decide_eq_false (by omega), Bool.or_false]
              have HSQ := Lib.hid (HL4.out.seq HV4.out.ok)
              have HK : Hid (∀ w', Below W4.heap.size W4 w' → (fun w' => w'.cell? ⟨gl, ol + j * 7, none⟩ = some (.string cg.us) ∧ w'.cell? ⟨gl, ol + j * 7 + 1, none⟩ = some (.int .i64 cg.o1) ∧ w'.cell? ⟨gl, ol + j * 7 + 2, none⟩ = some (.int .i64 cg.o2) ∧ w'.cell? ⟨gl, ol + j * 7 + 3, none⟩ = some (.int .i64 cg.o3) ∧ w'.cell? ⟨gl, ol + j * 7 + 4, none⟩ = some (.int .i64 cg.n1) ∧ w'.cell? ⟨gl, ol + j * 7 + 5, none⟩ = some (.int .i64 cg.n2) ∧ w'.cell? ⟨gl, ol + j * 7 + 6, none⟩ = some (.int .i64 cg.n3)) w') := fun w' h => ⟨(h.cell (p := ⟨gl, ol + j * 7, none⟩) lg3).trans y0, (h.cell (p := ⟨gl, ol + j * 7 + 1, none⟩) lg3).trans y1, (h.cell (p := ⟨gl, ol + j * 7 + 2, none⟩) lg3).trans y2, (h.cell (p := ⟨gl, ol + j * 7 + 3, none⟩) lg3).trans y3, (h.cell (p := ⟨gl, ol + j * 7 + 4, none⟩) lg3).trans y4, (h.cell (p := ⟨gl, ol + j * 7 + 5, none⟩) lg3).trans y5, (h.cell (p := ⟨gl, ol + j * 7 + 6, none⟩) lg3).trans y6⟩
              have hglr : gl ≠ r := HG4.out.ne HV4.out.box
              have HK2 : Hid (∀ w', Below W4.heap.size W4 w' → ∀ v, (fun w' => w'.cell? ⟨gl, ol + j * 7, none⟩ = some (.string cg.us) ∧ w'.cell? ⟨gl, ol + j * 7 + 1, none⟩ = some (.int .i64 cg.o1) ∧ w'.cell? ⟨gl, ol + j * 7 + 2, none⟩ = some (.int .i64 cg.o2) ∧ w'.cell? ⟨gl, ol + j * 7 + 3, none⟩ = some (.int .i64 cg.o3) ∧ w'.cell? ⟨gl, ol + j * 7 + 4, none⟩ = some (.int .i64 cg.n1) ∧ w'.cell? ⟨gl, ol + j * 7 + 5, none⟩ = some (.int .i64 cg.n2) ∧ w'.cell? ⟨gl, ol + j * 7 + 6, none⟩ = some (.int .i64 cg.n3)) (w'.setCell ⟨r, 2 + k, none⟩ v)) := fun w' h v => ⟨(World.cell?_of_block (Below.heap_setCell w' ⟨r, 2 + k, none⟩ v gl hglr)).trans ((h.cell (p := ⟨gl, ol + j * 7, none⟩) lg3).trans y0), (World.cell?_of_block (Below.heap_setCell w' ⟨r, 2 + k, none⟩ v gl hglr)).trans ((h.cell (p := ⟨gl, ol + j * 7 + 1, none⟩) lg3).trans y1), (World.cell?_of_block (Below.heap_setCell w' ⟨r, 2 + k, none⟩ v gl hglr)).trans ((h.cell (p := ⟨gl, ol + j * 7 + 2, none⟩) lg3).trans y2), (World.cell?_of_block (Below.heap_setCell w' ⟨r, 2 + k, none⟩ v gl hglr)).trans ((h.cell (p := ⟨gl, ol + j * 7 + 3, none⟩) lg3).trans y3), (World.cell?_of_block (Below.heap_setCell w' ⟨r, 2 + k, none⟩ v gl hglr)).trans ((h.cell (p := ⟨gl, ol + j * 7 + 4, none⟩) lg3).trans y4), (World.cell?_of_block (Below.heap_setCell w' ⟨r, 2 + k, none⟩ v gl hglr)).trans ((h.cell (p := ⟨gl, ol + j * 7 + 5, none⟩) lg3).trans y5), (World.cell?_of_block (Below.heap_setCell w' ⟨r, 2 + k, none⟩ v gl hglr)).trans ((h.cell (p := ⟨gl, ol + j * 7 + 6, none⟩) lg3).trans y6)⟩
              have K0 : Below W4.heap.size W4 W4.drew := Law.below_drewN (Below.refl _ W4) 1
              go_wp2_with fail
              refine wp_region_held_drew (S := fun w' => w'.cell? ⟨gl, ol + j * 7, none⟩ = some (.string cg.us) ∧ w'.cell? ⟨gl, ol + j * 7 + 1, none⟩ = some (.int .i64 cg.o1) ∧ w'.cell? ⟨gl, ol + j * 7 + 2, none⟩ = some (.int .i64 cg.o2) ∧ w'.cell? ⟨gl, ol + j * 7 + 3, none⟩ = some (.int .i64 cg.o3) ∧ w'.cell? ⟨gl, ol + j * 7 + 4, none⟩ = some (.int .i64 cg.n1) ∧ w'.cell? ⟨gl, ol + j * 7 + 5, none⟩ = some (.int .i64 cg.n2) ∧ w'.cell? ⟨gl, ol + j * 7 + 6, none⟩ = some (.int .i64 cg.n3)) (by kernel_rfl) (HK.out _ K0) (fun hS => ?_)
              have HB := Lib.hid K0
              clear K0
              generalize W4.drew = Y0 at *
              refine wpAnyH_take (i := 0) (oi := { dst := some 44, op := .move (.tmp 0), type := _, pos := _, after := _, guard := _ }) (v := .pointer (some ⟨r, 0, none⟩)) rfl (by kernel_rfl) (by kernel_rfl) (by kernel_rfl) (fun _ _ _ h => h) (Or.inl ⟨by rfl, ?_⟩) hS ?_
              · intro w' hSw
                go_simp
              try simp only [Act.put, List.setIfInBounds_toArray, List.set_cons_zero, List.set_cons_succ]
              refine wpAnyH_take (i := 1) (oi := { dst := some 45, op := .move (.tmp 7), type := _, pos := _, after := _, guard := _ }) (v := .int .i64 (k : Int)) rfl (by kernel_rfl) (by kernel_rfl) (by kernel_rfl) (fun _ _ _ h => h) (Or.inl ⟨by rfl, ?_⟩) hS ?_
              · intro w' hSw
                go_simp
              try simp only [Act.put, List.setIfInBounds_toArray, List.set_cons_zero, List.set_cons_succ]
              refine wpAnyH_take (i := 3) (oi := { dst := some 47, op := .move (.tmp 0), type := _, pos := _, after := _, guard := _ }) (v := .pointer (some ⟨r, 0, none⟩)) rfl (by kernel_rfl) (by kernel_rfl) (by kernel_rfl) (fun _ _ _ h => h) (Or.inl ⟨by rfl, ?_⟩) hS ?_
              · intro w' hSw
                go_simp
              try simp only [Act.put, List.setIfInBounds_toArray, List.set_cons_zero, List.set_cons_succ]
              refine wpAnyH_take (i := 4) (oi := { dst := some 48, op := .move (.tmp 7), type := _, pos := _, after := _, guard := _ }) (v := .int .i64 (k : Int)) rfl (by kernel_rfl) (by kernel_rfl) (by kernel_rfl) (fun _ _ _ h => h) (Or.inl ⟨by rfl, ?_⟩) hS ?_
              · intro w' hSw
                go_simp
              try simp only [Act.put, List.setIfInBounds_toArray, List.set_cons_zero, List.set_cons_succ]
              refine wpAnyH_take (i := 5) (oi := { dst := some 49, op := .nilCheck (.tmp 47), type := _, pos := _, after := _, guard := _ }) (v := .pointer (some ⟨r, 0, none⟩)) rfl (by kernel_rfl) (by kernel_rfl) (by kernel_rfl) (fun _ _ _ h => h) (Or.inl ⟨by rfl, ?_⟩) hS ?_
              · intro w' hSw
                go_simp
              try simp only [Act.put, List.setIfInBounds_toArray, List.set_cons_zero, List.set_cons_succ]
              refine wpAnyH_take (i := 6) (oi := { dst := some 50, op := .fieldAddr 81 (.tmp 49) 2, type := _, pos := _, after := _, guard := _ }) (v := .pointer (some ⟨r, 2, none⟩)) rfl (by kernel_rfl) (by kernel_rfl) (by kernel_rfl) (fun _ _ _ h => h) (Or.inl ⟨by rfl, ?_⟩) hS ?_
              · intro w' hSw
                go_simp
              try simp only [Act.put, List.setIfInBounds_toArray, List.set_cons_zero, List.set_cons_succ]
              refine wpAnyH_take (i := 7) (oi := { dst := some 51, op := .indexAddr 78 (.tmp 50) (.tmp 48), type := _, pos := _, after := _, guard := _ }) (v := .pointer (some ⟨r, 2 + k, none⟩)) rfl (by kernel_rfl) (by kernel_rfl) (by kernel_rfl) (fun _ _ _ h => h) (Or.inl ⟨by rfl, ?_⟩) hS ?_
              · intro w' hSw
                go_simp; (try (intro h8; omega))
              try simp only [Act.put, List.setIfInBounds_toArray, List.set_cons_zero, List.set_cons_succ]
              refine wpAnyH_take (i := 10) (oi := { dst := some 54, op := .move (.tmp 1), type := _, pos := _, after := _, guard := _ }) (v := .slice (some ⟨gl, ol, none⟩) cgs.length c) rfl (by kernel_rfl) (by kernel_rfl) (by kernel_rfl) (fun _ _ _ h => h) (Or.inl ⟨by rfl, ?_⟩) hS ?_
              · intro w' hSw
                go_simp
              try simp only [Act.put, List.setIfInBounds_toArray, List.set_cons_zero, List.set_cons_succ]
              refine wpAnyH_take (i := 11) (oi := { dst := some 55, op := .move (.tmp 6), type := _, pos := _, after := _, guard := _ }) (v := .int .i64 (j : Int)) rfl (by kernel_rfl) (by kernel_rfl) (by kernel_rfl) (fun _ _ _ h => h) (Or.inl ⟨by rfl, ?_⟩) hS ?_
              · intro w' hSw
                go_simp
              try simp only [Act.put, List.setIfInBounds_toArray, List.set_cons_zero, List.set_cons_succ]
              refine wpAnyH_take (i := 12) (oi := { dst := some 56, op := .indexAddr 85 (.tmp 54) (.tmp 55), type := _, pos := _, after := _, guard := _ }) (v := .pointer (some ⟨gl, ol + j * 7, none⟩)) rfl (by kernel_rfl) (by kernel_rfl) (by kernel_rfl) (fun _ _ _ h => h) (Or.inl ⟨by rfl, ?_⟩) hS ?_
              · intro w' hSw
                go_simp; (try (intro h8; omega))
              try simp only [Act.put, List.setIfInBounds_toArray, List.set_cons_zero, List.set_cons_succ]
              refine wpAnyH_take (i := 13) (oi := { dst := some 57, op := .fieldAddr 131 (.tmp 56) 0, type := _, pos := _, after := _, guard := _ }) (v := .pointer (some ⟨gl, ol + j * 7, none⟩)) rfl (by kernel_rfl) (by kernel_rfl) (by kernel_rfl) (fun _ _ _ h => h) (Or.inl ⟨by rfl, ?_⟩) hS ?_
              · intro w' hSw
                go_simp
              try simp only [Act.put, List.setIfInBounds_toArray, List.set_cons_zero, List.set_cons_succ]
              refine wpAnyH_take (i := 14) (oi := { dst := some 58, op := .load 9 (.tmp 57), type := _, pos := _, after := _, guard := _ }) (v := .string cg.us) rfl (by kernel_rfl) (by kernel_rfl) (by kernel_rfl) (fun _ _ _ h => h) (Or.inl ⟨by rfl, ?_⟩) hS ?_
              · intro w' hSw
                go_simp
              try simp only [Act.put, List.setIfInBounds_toArray, List.set_cons_zero, List.set_cons_succ]
              refine wpAnyH_take (i := 15) (oi := { dst := some 59, op := .move (.tmp 1), type := _, pos := _, after := _, guard := _ }) (v := .slice (some ⟨gl, ol, none⟩) cgs.length c) rfl (by kernel_rfl) (by kernel_rfl) (by kernel_rfl) (fun _ _ _ h => h) (Or.inl ⟨by rfl, ?_⟩) hS ?_
              · intro w' hSw
                go_simp
              try simp only [Act.put, List.setIfInBounds_toArray, List.set_cons_zero, List.set_cons_succ]
              refine wpAnyH_take (i := 16) (oi := { dst := some 60, op := .move (.tmp 6), type := _, pos := _, after := _, guard := _ }) (v := .int .i64 (j : Int)) rfl (by kernel_rfl) (by kernel_rfl) (by kernel_rfl) (fun _ _ _ h => h) (Or.inl ⟨by rfl, ?_⟩) hS ?_
              · intro w' hSw
                go_simp
              try simp only [Act.put, List.setIfInBounds_toArray, List.set_cons_zero, List.set_cons_succ]
              refine wpAnyH_take (i := 17) (oi := { dst := some 61, op := .indexAddr 85 (.tmp 59) (.tmp 60), type := _, pos := _, after := _, guard := _ }) (v := .pointer (some ⟨gl, ol + j * 7, none⟩)) rfl (by kernel_rfl) (by kernel_rfl) (by kernel_rfl) (fun _ _ _ h => h) (Or.inl ⟨by rfl, ?_⟩) hS ?_
              · intro w' hSw
                go_simp; (try (intro h8; omega))
              try simp only [Act.put, List.setIfInBounds_toArray, List.set_cons_zero, List.set_cons_succ]
              refine wpAnyH_take (i := 18) (oi := { dst := some 62, op := .fieldAddr 131 (.tmp 61) 1, type := _, pos := _, after := _, guard := _ }) (v := .pointer (some ⟨gl, ol + j * 7 + 1, none⟩)) rfl (by kernel_rfl) (by kernel_rfl) (by kernel_rfl) (fun _ _ _ h => h) (Or.inl ⟨by rfl, ?_⟩) hS ?_
              · intro w' hSw
                go_simp
              try simp only [Act.put, List.setIfInBounds_toArray, List.set_cons_zero, List.set_cons_succ]
              refine wpAnyH_take (i := 19) (oi := { dst := some 63, op := .load 57 (.tmp 62), type := _, pos := _, after := _, guard := _ }) (v := .agg #[.int .i64 cg.o1, .int .i64 cg.o2, .int .i64 cg.o3]) rfl (by kernel_rfl) (by kernel_rfl) (by kernel_rfl) (fun _ _ _ h => h) (Or.inl ⟨by rfl, ?_⟩) hS ?_
              · intro w' hSw
                go_simp
              try simp only [Act.put, List.setIfInBounds_toArray, List.set_cons_zero, List.set_cons_succ]
              refine wpAnyH_take (i := 20) (oi := { dst := some 64, op := .move (.tmp 1), type := _, pos := _, after := _, guard := _ }) (v := .slice (some ⟨gl, ol, none⟩) cgs.length c) rfl (by kernel_rfl) (by kernel_rfl) (by kernel_rfl) (fun _ _ _ h => h) (Or.inl ⟨by rfl, ?_⟩) hS ?_
              · intro w' hSw
                go_simp
              try simp only [Act.put, List.setIfInBounds_toArray, List.set_cons_zero, List.set_cons_succ]
              refine wpAnyH_take (i := 21) (oi := { dst := some 65, op := .move (.tmp 6), type := _, pos := _, after := _, guard := _ }) (v := .int .i64 (j : Int)) rfl (by kernel_rfl) (by kernel_rfl) (by kernel_rfl) (fun _ _ _ h => h) (Or.inl ⟨by rfl, ?_⟩) hS ?_
              · intro w' hSw
                go_simp
              try simp only [Act.put, List.setIfInBounds_toArray, List.set_cons_zero, List.set_cons_succ]
              refine wpAnyH_take (i := 22) (oi := { dst := some 66, op := .indexAddr 85 (.tmp 64) (.tmp 65), type := _, pos := _, after := _, guard := _ }) (v := .pointer (some ⟨gl, ol + j * 7, none⟩)) rfl (by kernel_rfl) (by kernel_rfl) (by kernel_rfl) (fun _ _ _ h => h) (Or.inl ⟨by rfl, ?_⟩) hS ?_
              · intro w' hSw
                go_simp; (try (intro h8; omega))
              try simp only [Act.put, List.setIfInBounds_toArray, List.set_cons_zero, List.set_cons_succ]
              refine wpAnyH_take (i := 23) (oi := { dst := some 67, op := .fieldAddr 131 (.tmp 66) 2, type := _, pos := _, after := _, guard := _ }) (v := .pointer (some ⟨gl, ol + j * 7 + 4, none⟩)) rfl (by kernel_rfl) (by kernel_rfl) (by kernel_rfl) (fun _ _ _ h => h) (Or.inl ⟨by rfl, ?_⟩) hS ?_
              · intro w' hSw
                go_simp
              try simp only [Act.put, List.setIfInBounds_toArray, List.set_cons_zero, List.set_cons_succ]
              refine wpAnyH_take (i := 24) (oi := { dst := some 68, op := .load 57 (.tmp 67), type := _, pos := _, after := _, guard := _ }) (v := .agg #[.int .i64 cg.n1, .int .i64 cg.n2, .int .i64 cg.n3]) rfl (by kernel_rfl) (by kernel_rfl) (by kernel_rfl) (fun _ _ _ h => h) (Or.inl ⟨by rfl, ?_⟩) hS ?_
              · intro w' hSw
                go_simp
              try simp only [Act.put, List.setIfInBounds_toArray, List.set_cons_zero, List.set_cons_succ]
              refine wpAnyH_take (i := 25) (oi := { dst := some 69, op := .move (.tmp 2), type := _, pos := _, after := _, guard := _ }) (v := .int .u64 seq) rfl (by kernel_rfl) (by kernel_rfl) (by kernel_rfl) (fun _ _ _ h => h) (Or.inl ⟨by rfl, ?_⟩) hS ?_
              · intro w' hSw
                go_simp
              try simp only [Act.put, List.setIfInBounds_toArray, List.set_cons_zero, List.set_cons_succ]
              refine wpAnyH_take (i := 26) (oi := { dst := some 70, op := .build 63 #[(0, .tmp 58), (1, .tmp 63), (2, .tmp 68), (3, .tmp 69)], type := _, pos := _, after := _, guard := _ }) (v := .agg #[.string cg.us, .int .i64 cg.o1, .int .i64 cg.o2, .int .i64 cg.o3, .int .i64 cg.n1, .int .i64 cg.n2, .int .i64 cg.n3, .int .u64 seq]) rfl (by kernel_rfl) (by kernel_rfl) (by kernel_rfl) (fun _ _ _ h => h) (Or.inl ⟨by rfl, ?_⟩) hS ?_
              · intro w' hSw
                go_simp
              try simp only [Act.put, List.setIfInBounds_toArray, List.set_cons_zero, List.set_cons_succ]
              refine wpAnyH_take (i := 29) (oi := { dst := some 73, op := .nilCheck (.tmp 44), type := _, pos := _, after := _, guard := _ }) (v := .pointer (some ⟨r, 0, none⟩)) rfl (by kernel_rfl) (by kernel_rfl) (by kernel_rfl) (fun _ _ _ h => h) (Or.inl ⟨by rfl, ?_⟩) hS ?_
              · intro w' hSw
                go_simp
              try simp only [Act.put, List.setIfInBounds_toArray, List.set_cons_zero, List.set_cons_succ]
              refine wpAnyH_take (i := 30) (oi := { dst := some 74, op := .fieldAddr 81 (.tmp 73) 2, type := _, pos := _, after := _, guard := _ }) (v := .pointer (some ⟨r, 2, none⟩)) rfl (by kernel_rfl) (by kernel_rfl) (by kernel_rfl) (fun _ _ _ h => h) (Or.inl ⟨by rfl, ?_⟩) hS ?_
              · intro w' hSw
                go_simp
              try simp only [Act.put, List.setIfInBounds_toArray, List.set_cons_zero, List.set_cons_succ]
              clear hS
              refine wpAnyH_ready (rs := [2, 8, 27]) (by kernel_rfl) (by simp) ?_
              refine AllReadyH.cons (o := { dst := some 46, op := .buildSlice 41 0 #[], type := _, pos := _, after := _, guard := _ }) rfl (fun K hK => ?_) ?_
              · go_simp
                refine hK.out _ _ (HK.out _ (HB.out.alloc HB.out.size (.cells #[] 63))) (fun _ => ?_)
                clear hK K
                try simp only [Act.put, List.setIfInBounds_toArray, List.set_cons_zero, List.set_cons_succ]
                have HB2 := Lib.hid (HB.out.alloc HB.out.size (.cells #[] 63))
                have sb := HB.out.size
                have OA2 := Lib.hid (own_emptyN Y0 63 (base := W4.heap.size) sb)
                have na : W4.heap.size ≤ Y0.heap.size := sb
                have la2 : Y0.heap.size < (Y0.alloc (.cells #[] 63)).heap.size := by simp
                generalize Y0.alloc (.cells #[] 63) = Y1 at *
                clear HB sb
                generalize Y0.heap.size = ga at *
                have HB := HB2
                clear HB2
                have OA := OA2
                clear OA2
                have la := la2
                clear la2
                refine wpAnyH_ready (rs := [8, 27]) (by kernel_rfl) (by simp) ?_
                refine AllReadyH.cons (o := { dst := some 52, op := .load 41 (.tmp 51), type := _, pos := _, after := _, guard := _ }) rfl (fun K hK => ?_) ?_
                · have cl : Y1.cell? ⟨r, 2 + k, none⟩ = some (.slice A (s1.que k).length cq) := (HB.out.cell (p := ⟨r, 2 + k, none⟩) l1).trans a1
                  go_simp
                  refine hK.out _ _ (HK.out _ HB.out) (fun _ => ?_)
                  clear hK K cl
                  try simp only [Act.put, List.setIfInBounds_toArray, List.set_cons_zero, List.set_cons_succ]
                  refine wpAnyH_ready (rs := [9, 27]) (by kernel_rfl) (by simp) ?_
                  refine AllReadyH.cons (o := { dst := some 53, op := .call { callee := .builtin .append, args := #[.tmp 46, .tmp 52], argTypes := #[41, 41] }, type := _, pos := _, after := _, guard := _ }) rfl (fun K hK => ?_) ?_
                  · refine Law.step_append_seq _ W4.heap.size 41 rfl (.tmp 46) (.tmp 52) rfl HE.out (.slice (some ⟨ga, 0, none⟩) 0 0) 0 [] (by simp [Act.eval]) (by exact OA.out) 0 W4.heap.size A (s1.que k).length cq (flatE (s1.que k)) (by simp [Act.eval]) (flatE_length _) (HSQ.out.below HB.out) (flatE_one _) (by unfold maxLen; omega) (by omega) HB.out.size ?_
                    intro v3 Y3 own grow
                    have hb2 : Below W4.heap.size W4 Y3 := HB.out.grown grow HB.out.size (fun g hg => by have h9 : ga = g := Option.some.inj hg; omega)
                    refine hK.out _ _ (HK.out _ hb2) (fun _ => ?_)
                    clear hK K
                    try simp only [Act.put, List.setIfInBounds_toArray, List.set_cons_zero, List.set_cons_succ]
                    have OA2 : Hid (Y3.ownsRow W4.heap.size 63 8 v3 (s1.que k).length (flatE (s1.que k))) := by show World.ownsRow _ _ _ _ _ _ _; simpa using own
                    have HB2 := Lib.hid hb2
                    obtain ⟨A5, c5, rfl, _⟩ := own_shape OA2.out
                    clear own grow hb2 HB OA la
                    have HB := HB2
                    have OA := OA2
                    clear HB2 OA2
                    refine wpAnyH_ready (rs := [27]) (by kernel_rfl) (by simp) ?_
                    refine AllReadyH.cons (o := { dst := some 71, op := .buildSlice 41 1 #[(0, .tmp 70)], type := _, pos := _, after := _, guard := _ }) rfl (fun K hK => ?_) AllReadyH.nil
                    go_simp
                    refine hK.out _ _ (HK.out _ (HB.out.alloc HB.out.size (.cells #[.string cg.us, .int .i64 cg.o1, .int .i64 cg.o2, .int .i64 cg.o3, .int .i64 cg.n1, .int .i64 cg.n2, .int .i64 cg.n3, .int .u64 seq] 63))) (fun _ => ?_)
                    clear hK K
                    try simp only [Act.put, List.setIfInBounds_toArray, List.set_cons_zero, List.set_cons_succ]
                    have HB2 := Lib.hid (HB.out.alloc HB.out.size (.cells #[.string cg.us, .int .i64 cg.o1, .int .i64 cg.o2, .int .i64 cg.o3, .int .i64 cg.n1, .int .i64 cg.n2, .int .i64 cg.n3, .int .u64 seq] 63))
                    have sb := HB.out.size
                    have OA2 := Lib.hid (OA.out.alloc (.cells #[.string cg.us, .int .i64 cg.o1, .int .i64 cg.o2, .int .i64 cg.o3, .int .i64 cg.n1, .int .i64 cg.n2, .int .i64 cg.n3, .int .u64 seq] 63))
                    have IC2 := Lib.hid (Is.new Y3 63 #[.string cg.us, .int .i64 cg.o1, .int .i64 cg.o2, .int .i64 cg.o3, .int .i64 cg.n1, .int .i64 cg.n2, .int .i64 cg.n3, .int .u64 seq] rfl)
                    generalize Y3.alloc (.cells #[.string cg.us, .int .i64 cg.o1, .int .i64 cg.o2, .int .i64 cg.o3, .int .i64 cg.n1, .int .i64 cg.n2, .int .i64 cg.n3, .int .u64 seq] 63) = Y4 at *
                    clear HB sb OA
                    generalize Y3.heap.size = gc at *
                    have HB := HB2
                    clear HB2
                    have OA := OA2
                    clear OA2
                    have IC := IC2
                    clear IC2
                    refine wpAnyH_ready (rs := [28]) (by kernel_rfl) (by simp) ?_
                    refine AllReadyH.cons (o := { dst := some 72, op := .call { callee := .builtin .append, args := #[.tmp 53, .tmp 71], argTypes := #[41, 41] }, type := _, pos := _, after := _, guard := _ }) rfl (fun K hK => ?_) AllReadyH.nil
                    refine Law.step_append_seq _ W4.heap.size 41 rfl (.tmp 53) (.tmp 71) rfl HE.out (.slice A5 (s1.que k).length c5) (s1.que k).length (flatE (s1.que k)) (by simp [Act.eval]) (by exact OA.out) gc (gc + 1) (some ⟨gc, 0, none⟩) 1 1 (cellsE (cg.ev seq)) (by simp [Act.eval]) rfl (seq_box IC.out) (one_E _) (by unfold maxLen; omega) (by omega) HB.out.size ?_
                    intro v5 Y5 own grow
                    have hb2 : Below W4.heap.size W4 Y5 := HB.out.grown grow HB.out.size (fun g hg => (OA.out.lt g hg).1)
                    refine hK.out _ _ (HK.out _ hb2) (fun _ => ?_)
                    clear hK K
                    try simp only [Act.put, List.setIfInBounds_toArray, List.set_cons_zero, List.set_cons_succ]
                    have OA2 : Hid (Y5.ownsRow W4.heap.size 63 8 v5 ((s1.que k).length + 1) (flatE (s1.que k ++ [cg.ev seq]))) := by show World.ownsRow _ _ _ _ _ _ _; rw [flatE_snoc]; exact own
                    have HB2 := Lib.hid hb2
                    obtain ⟨A7, c7, rfl, _⟩ := own_shape OA2.out
                    clear own grow hb2 HB OA IC
                    have HB := HB2
                    have OA := OA2
                    clear HB2 OA2
                    refine wpAnyH_take (i := 31) (oi := { dst := some 75, op := .indexAddr 78 (.tmp 74) (.tmp 45), type := _, pos := _, after := _, guard := _ }) (v := .pointer (some ⟨r, 2 + k, none⟩)) rfl (by kernel_rfl) (by kernel_rfl) (by kernel_rfl) (fun _ _ _ h => h) (Or.inl ⟨by rfl, ?_⟩) (HK.out _ HB.out) ?_
                    · intro w' hSw
                      go_simp; (try (intro h8; omega))
                    try simp only [Act.put, List.setIfInBounds_toArray, List.set_cons_zero, List.set_cons_succ]
                    refine wpAnyH_ready (rs := [32]) (by kernel_rfl) (by simp) ?_
                    refine AllReadyH.cons (o := { dst := none, op := .store 41 (.tmp 75) (.tmp 72), type := _, pos := _, after := _, guard := _ }) rfl (fun K hK => ?_) AllReadyH.nil
                    have I7 := HV4.out.box.below HB.out HV4.out.box.lt
                    have b1 : Y5.cell? ⟨r, 2 + k, none⟩ = some (.slice A (s1.que k).length cq) := (HB.out.cell (p := ⟨r, 2 + k, none⟩) l1).trans a1
                    have g1 := I7.frozen (2 + k)
                    have k1 := I7.lt
                    clear I7
                    go_simp
                    refine hK.out _ _ (HK2.out _ HB.out _) (fun _ => ?_)
                    clear hK K b1 g1 k1
                    try simp only [Act.put, List.setIfInBounds_toArray, List.set_cons_zero, List.set_cons_succ]
                    refine wpAnyH_done (by kernel_rfl) ?_ _
                    have HFIN := Lib.hid (room_left HV4.out hk HB.out OA.out)
                    go_wp2_with fail
                    go_roundw
                    case rel =>
                      obtain ⟨R7, hR7, hW7⟩ := HFIN.out
                      refine ⟨k + 1, by omega, by go_num, R7, ?_, HW4.out.trans hW7⟩
                      rw [HE1.out, HS.out]
                      refine hR7.congr (fun i => ?_) (fun i => ?_)
                      · show _ = upd s1.que k _ i
                        rw [HFU.out.1]
                      · show _ = upd s1.los k _ i
                        rw [HFU.out.2]
                        by_cases e : i = k
                        · subst e; rw [upd_same]
                        · rw [upd_other _ _ e]
                    case measure => simp [intOf]; omega
                  refine AllReadyH.cons (o := { dst := some 71, op := .buildSlice 41 1 #[(0, .tmp 70)], type := _, pos := _, after := _, guard := _ }) rfl (fun K hK => ?_) AllReadyH.nil
                  go_simp
                  refine hK.out _ _ (HK.out _ (HB.out.alloc HB.out.size (.cells #[.string cg.us, .int .i64 cg.o1, .int .i64 cg.o2, .int .i64 cg.o3, .int .i64 cg.n1, .int .i64 cg.n2, .int .i64 cg.n3, .int .u64 seq] 63))) (fun _ => ?_)
                  clear hK K
                  try simp only [Act.put, List.setIfInBounds_toArray, List.set_cons_zero, List.set_cons_succ]
                  have HB2 := Lib.hid (HB.out.alloc HB.out.size (.cells #[.string cg.us, .int .i64 cg.o1, .int .i64 cg.o2, .int .i64 cg.o3, .int .i64 cg.n1, .int .i64 cg.n2, .int .i64 cg.n3, .int .u64 seq] 63))
                  have sb := HB.out.size
                  have OA2 := Lib.hid (OA.out.alloc (.cells #[.string cg.us, .int .i64 cg.o1, .int .i64 cg.o2, .int .i64 cg.o3, .int .i64 cg.n1, .int .i64 cg.n2, .int .i64 cg.n3, .int .u64 seq] 63))
                  have IC2 := Lib.hid (Is.new Y1 63 #[.string cg.us, .int .i64 cg.o1, .int .i64 cg.o2, .int .i64 cg.o3, .int .i64 cg.n1, .int .i64 cg.n2, .int .i64 cg.n3, .int .u64 seq] rfl)
                  have nac : ga ≠ Y1.heap.size := by omega
                  have la2 : ga < (Y1.alloc (.cells #[.string cg.us, .int .i64 cg.o1, .int .i64 cg.o2, .int .i64 cg.o3, .int .i64 cg.n1, .int .i64 cg.n2, .int .i64 cg.n3, .int .u64 seq] 63)).heap.size := by simp; omega
                  generalize Y1.alloc (.cells #[.string cg.us, .int .i64 cg.o1, .int .i64 cg.o2, .int .i64 cg.o3, .int .i64 cg.n1, .int .i64 cg.n2, .int .i64 cg.n3, .int .u64 seq] 63) = Y7 at *
                  clear HB sb OA la
                  generalize Y1.heap.size = gc at *
                  have HB := HB2
                  clear HB2
                  have OA := OA2
                  clear OA2
                  have IC := IC2
                  clear IC2
                  have la := la2
                  clear la2
                  refine wpAnyH_ready (rs := [9]) (by kernel_rfl) (by simp) ?_
                  refine AllReadyH.cons (o := { dst := some 53, op := .call { callee := .builtin .append, args := #[.tmp 46, .tmp 52], argTypes := #[41, 41] }, type := _, pos := _, after := _, guard := _ }) rfl (fun K hK => ?_) AllReadyH.nil
                  refine Law.step_append_seq _ W4.heap.size 41 rfl (.tmp 46) (.tmp 52) rfl HE.out (.slice (some ⟨ga, 0, none⟩) 0 0) 0 [] (by simp [Act.eval]) (by exact OA.out) 0 W4.heap.size A (s1.que k).length cq (flatE (s1.que k)) (by simp [Act.eval]) (flatE_length _) (HSQ.out.below HB.out) (flatE_one _) (by unfold maxLen; omega) (by omega) HB.out.size ?_
                  intro v8 Y8 own grow
                  have hb2 : Below W4.heap.size W4 Y8 := HB.out.grown grow HB.out.size (fun g hg => by have h9 : ga = g := Option.some.inj hg; omega)
                  refine hK.out _ _ (HK.out _ hb2) (fun _ => ?_)
                  clear hK K
                  try simp only [Act.put, List.setIfInBounds_toArray, List.set_cons_zero, List.set_cons_succ]
                  have OA2 : Hid (Y8.ownsRow W4.heap.size 63 8 v8 (s1.que k).length (flatE (s1.que k))) := by show World.ownsRow _ _ _ _ _ _ _; simpa using own
                  have HB2 := Lib.hid hb2
                  have IC2 : Hid (Is Y8 gc 63 #[.string cg.us, .int .i64 cg.o1, .int .i64 cg.o2, .int .i64 cg.o3, .int .i64 cg.n1, .int .i64 cg.n2, .int .i64 cg.n3, .int .u64 seq]) := (grow.block gc IC.out.lt (fun h => nac (Option.some.inj h).symm)).trans IC.out
                  obtain ⟨A5, c5, rfl, _⟩ := own_shape OA2.out
                  clear own grow hb2 HB OA la IC nac
                  have HB := HB2
                  have OA := OA2
                  clear HB2 OA2
                  have IC := IC2
                  clear IC2
                  refine wpAnyH_ready (rs := [28]) (by kernel_rfl) (by simp) ?_
                  refine AllReadyH.cons (o := { dst := some 72, op := .call { callee := .builtin .append, args := #[.tmp 53, .tmp 71], argTypes := #[41, 41] }, type := _, pos := _, after := _, guard := _ }) rfl (fun K hK => ?_) AllReadyH.nil
                  refine Law.step_append_seq _ W4.heap.size 41 rfl (.tmp 53) (.tmp 71) rfl HE.out (.slice A5 (s1.que k).length c5) (s1.que k).length (flatE (s1.que k)) (by simp [Act.eval]) (by exact OA.out) gc (gc + 1) (some ⟨gc, 0, none⟩) 1 1 (cellsE (cg.ev seq)) (by simp [Act.eval]) rfl (seq_box IC.out) (one_E _) (by unfold maxLen; omega) (by omega) HB.out.size ?_
                  intro v9 Y9 own grow
                  have hb2 : Below W4.heap.size W4 Y9 := HB.out.grown grow HB.out.size (fun g hg => (OA.out.lt g hg).1)
                  refine hK.out _ _ (HK.out _ hb2) (fun _ => ?_)
                  clear hK K
                  try simp only [Act.put, List.setIfInBounds_toArray, List.set_cons_zero, List.set_cons_succ]
                  have OA2 : Hid (Y9.ownsRow W4.heap.size 63 8 v9 ((s1.que k).length + 1) (flatE (s1.que k ++ [cg.ev seq]))) := by show World.ownsRow _ _ _ _ _ _ _; rw [flatE_snoc]; exact own
                  have HB2 := Lib.hid hb2
                  obtain ⟨A7, c7, rfl, _⟩ := own_shape OA2.out
                  clear own grow hb2 HB OA IC
                  have HB := HB2
                  have OA := OA2
                  clear HB2 OA2
                  refine wpAnyH_take (i := 31) (oi := { dst := some 75, op := .indexAddr 78 (.tmp 74) (.tmp 45), type := _, pos := _, after := _, guard := _ }) (v := .pointer (some ⟨r, 2 + k, none⟩)) rfl (by kernel_rfl) (by kernel_rfl) (by kernel_rfl) (fun _ _ _ h => h) (Or.inl ⟨by rfl, ?_⟩) (HK.out _ HB.out) ?_
                  · intro w' hSw
                    go_simp; (try (intro h8; omega))
                  try simp only [Act.put, List.setIfInBounds_toArray, List.set_cons_zero, List.set_cons_succ]
                  refine wpAnyH_ready (rs := [32]) (by kernel_rfl) (by simp) ?_
                  refine AllReadyH.cons (o := { dst := none, op := .store 41 (.tmp 75) (.tmp 72), type := _, pos := _, after := _, guard := _ }) rfl (fun K hK => ?_) AllReadyH.nil
                  have I7 := HV4.out.box.below HB.out HV4.out.box.lt
                  have b1 : Y9.cell? ⟨r, 2 + k, none⟩ = some (.slice A (s1.que k).length cq) := (HB.out.cell (p := ⟨r, 2 + k, none⟩) l1).trans a1
                  have g1 := I7.frozen (2 + k)
                  have k1 := I7.lt
                  clear I7
                  go_simp
                  refine hK.out _ _ (HK2.out _ HB.out _) (fun _ => ?_)
                  clear hK K b1 g1 k1
                  try simp only [Act.put, List.setIfInBounds_toArray, List.set_cons_zero, List.set_cons_succ]
                  refine wpAnyH_done (by kernel_rfl) ?_ _
                  have HFIN := Lib.hid (room_left HV4.out hk HB.out OA.out)
                  go_wp2_with fail
                  go_roundw
                  case rel =>
                    obtain ⟨R7, hR7, hW7⟩ := HFIN.out
                    refine ⟨k + 1, by omega, by go_num, R7, ?_, HW4.out.trans hW7⟩
                    rw [HE1.out, HS.out]
                    refine hR7.congr (fun i => ?_) (fun i => ?_)
                    · show _ = upd s1.que k _ i
                      rw [HFU.out.1]
                    · show _ = upd s1.los k _ i
                      rw [HFU.out.2]
                      by_cases e : i = k
                      · subst e; rw [upd_same]
                      · rw [upd_other _ _ e]
                  case measure => simp [intOf]; omega
                refine AllReadyH.cons (o := { dst := some 71, op := .buildSlice 41 1 #[(0, .tmp 70)], type := _, pos := _, after := _, guard := _ }) rfl (fun K hK => ?_) AllReadyH.nil
                go_simp
                refine hK.out _ _ (HK.out _ (HB.out.alloc HB.out.size (.cells #[.string cg.us, .int .i64 cg.o1, .int .i64 cg.o2, .int .i64 cg.o3, .int .i64 cg.n1, .int .i64 cg.n2, .int .i64 cg.n3, .int .u64 seq] 63))) (fun _ => ?_)
                clear hK K
                try simp only [Act.put, List.setIfInBounds_toArray, List.set_cons_zero, List.set_cons_succ]
                have HB2 := Lib.hid (HB.out.alloc HB.out.size (.cells #[.string cg.us, .int .i64 cg.o1, .int .i64 cg.o2, .int .i64 cg.o3, .int .i64 cg.n1, .int .i64 cg.n2, .int .i64 cg.n3, .int .u64 seq] 63))
                have sb := HB.out.size
                have OA2 := Lib.hid (OA.out.alloc (.cells #[.string cg.us, .int .i64 cg.o1, .int .i64 cg.o2, .int .i64 cg.o3, .int .i64 cg.n1, .int .i64 cg.n2, .int .i64 cg.n3, .int .u64 seq] 63))
                have IC2 := Lib.hid (Is.new Y1 63 #[.string cg.us, .int .i64 cg.o1, .int .i64 cg.o2, .int .i64 cg.o3, .int .i64 cg.n1, .int .i64 cg.n2, .int .i64 cg.n3, .int .u64 seq] rfl)
                have nac : ga ≠ Y1.heap.size := by omega
                have la2 : ga < (Y1.alloc (.cells #[.string cg.us, .int .i64 cg.o1, .int .i64 cg.o2, .int .i64 cg.o3, .int .i64 cg.n1, .int .i64 cg.n2, .int .i64 cg.n3, .int .u64 seq] 63)).heap.size := by simp; omega
                generalize Y1.alloc (.cells #[.string cg.us, .int .i64 cg.o1, .int .i64 cg.o2, .int .i64 cg.o3, .int .i64 cg.n1, .int .i64 cg.n2, .int .i64 cg.n3, .int .u64 seq] 63) = Y11 at *
                clear HB sb OA la
                generalize Y1.heap.size = gc at *
                have HB := HB2
                clear HB2
                have OA := OA2
                clear OA2
                have IC := IC2
                clear IC2
                have la := la2
                clear la2
                refine wpAnyH_ready (rs := [8]) (by kernel_rfl) (by simp) ?_
                refine AllReadyH.cons (o := { dst := some 52, op := .load 41 (.tmp 51), type := _, pos := _, after := _, guard := _ }) rfl (fun K hK => ?_) AllReadyH.nil
                have cl : Y11.cell? ⟨r, 2 + k, none⟩ = some (.slice A (s1.que k).length cq) := (HB.out.cell (p := ⟨r, 2 + k, none⟩) l1).trans a1
                go_simp
                refine hK.out _ _ (HK.out _ HB.out) (fun _ => ?_)
                clear hK K cl
                try simp only [Act.put, List.setIfInBounds_toArray, List.set_cons_zero, List.set_cons_succ]
                refine wpAnyH_ready (rs := [9]) (by kernel_rfl) (by simp) ?_
                refine AllReadyH.cons (o := { dst := some 53, op := .call { callee := .builtin .append, args := #[.tmp 46, .tmp 52], argTypes := #[41, 41] }, type := _, pos := _, after := _, guard := _ }) rfl (fun K hK => ?_) AllReadyH.nil
                refine Law.step_append_seq _ W4.heap.size 41 rfl (.tmp 46) (.tmp 52) rfl HE.out (.slice (some ⟨ga, 0, none⟩) 0 0) 0 [] (by simp [Act.eval]) (by exact OA.out) 0 W4.heap.size A (s1.que k).length cq (flatE (s1.que k)) (by simp [Act.eval]) (flatE_length _) (HSQ.out.below HB.out) (flatE_one _) (by unfold maxLen; omega) (by omega) HB.out.size ?_
                intro v13 Y13 own grow
                have hb2 : Below W4.heap.size W4 Y13 := HB.out.grown grow HB.out.size (fun g hg => by have h9 : ga = g := Option.some.inj hg; omega)
                refine hK.out _ _ (HK.out _ hb2) (fun _ => ?_)
                clear hK K
                try simp only [Act.put, List.setIfInBounds_toArray, List.set_cons_zero, List.set_cons_succ]
                have OA2 : Hid (Y13.ownsRow W4.heap.size 63 8 v13 (s1.que k).length (flatE (s1.que k))) := by show World.ownsRow _ _ _ _ _ _ _; simpa using own
                have HB2 := Lib.hid hb2
                have IC2 : Hid (Is Y13 gc 63 #[.string cg.us, .int .i64 cg.o1, .int .i64 cg.o2, .int .i64 cg.o3, .int .i64 cg.n1, .int .i64 cg.n2, .int .i64 cg.n3, .int .u64 seq]) := (grow.block gc IC.out.lt (fun h => nac (Option.some.inj h).symm)).trans IC.out
                obtain ⟨A5, c5, rfl, _⟩ := own_shape OA2.out
                clear own grow hb2 HB OA la IC nac
                have HB := HB2
                have OA := OA2
                clear HB2 OA2
                have IC := IC2
                clear IC2
                refine wpAnyH_ready (rs := [28]) (by kernel_rfl) (by simp) ?_
                refine AllReadyH.cons (o := { dst := some 72, op := .call { callee := .builtin .append, args := #[.tmp 53, .tmp 71], argTypes := #[41, 41] }, type := _, pos := _, after := _, guard := _ }) rfl (fun K hK => ?_) AllReadyH.nil
                refine Law.step_append_seq _ W4.heap.size 41 rfl (.tmp 53) (.tmp 71) rfl HE.out (.slice A5 (s1.que k).length c5) (s1.que k).length (flatE (s1.que k)) (by simp [Act.eval]) (by exact OA.out) gc (gc + 1) (some ⟨gc, 0, none⟩) 1 1 (cellsE (cg.ev seq)) (by simp [Act.eval]) rfl (seq_box IC.out) (one_E _) (by unfold maxLen; omega) (by omega) HB.out.size ?_
                intro v14 Y14 own grow
                have hb2 : Below W4.heap.size W4 Y14 := HB.out.grown grow HB.out.size (fun g hg => (OA.out.lt g hg).1)
                refine hK.out _ _ (HK.out _ hb2) (fun _ => ?_)
                clear hK K
                try simp only [Act.put, List.setIfInBounds_toArray, List.set_cons_zero, List.set_cons_succ]
                have OA2 : Hid (Y14.ownsRow W4.heap.size 63 8 v14 ((s1.que k).length + 1) (flatE (s1.que k ++ [cg.ev seq]))) := by show World.ownsRow _ _ _ _ _ _ _; rw [flatE_snoc]; exact own
                have HB2 := Lib.hid hb2
                obtain ⟨A7, c7, rfl, _⟩ := own_shape OA2.out
                clear own grow hb2 HB OA IC
                have HB := HB2
                have OA := OA2
                clear HB2 OA2
                refine wpAnyH_take (i := 31) (oi := { dst := some 75, op := .indexAddr 78 (.tmp 74) (.tmp 45), type := _, pos := _, after := _, guard := _ }) (v := .pointer (some ⟨r, 2 + k, none⟩)) rfl (by kernel_rfl) (by kernel_rfl) (by kernel_rfl) (fun _ _ _ h => h) (Or.inl ⟨by rfl, ?_⟩) (HK.out _ HB.out) ?_
                · intro w' hSw
                  go_simp; (try (intro h8; omega))
                try simp only [Act.put, List.setIfInBounds_toArray, List.set_cons_zero, List.set_cons_succ]
                refine wpAnyH_ready (rs := [32]) (by kernel_rfl) (by simp) ?_
                refine AllReadyH.cons (o := { dst := none, op := .store 41 (.tmp 75) (.tmp 72), type := _, pos := _, after := _, guard := _ }) rfl (fun K hK => ?_) AllReadyH.nil
                have I7 := HV4.out.box.below HB.out HV4.out.box.lt
                have b1 : Y14.cell? ⟨r, 2 + k, none⟩ = some (.slice A (s1.que k).length cq) := (HB.out.cell (p := ⟨r, 2 + k, none⟩) l1).trans a1
                have g1 := I7.frozen (2 + k)
                have k1 := I7.lt
                clear I7
                go_simp
                refine hK.out _ _ (HK2.out _ HB.out _) (fun _ => ?_)
                clear hK K b1 g1 k1
                try simp only [Act.put, List.setIfInBounds_toArray, List.set_cons_zero, List.set_cons_succ]
                refine wpAnyH_done (by kernel_rfl) ?_ _
                have HFIN := Lib.hid (room_left HV4.out hk HB.out OA.out)
                go_wp2_with fail
                go_roundw
                case rel =>
                  obtain ⟨R7, hR7, hW7⟩ := HFIN.out
                  refine ⟨k + 1, by omega, by go_num, R7, ?_, HW4.out.trans hW7⟩
                  rw [HE1.out, HS.out]
                  refine hR7.congr (fun i => ?_) (fun i => ?_)
                  · show _ = upd s1.que k _ i
                    rw [HFU.out.1]
                  · show _ = upd s1.los k _ i
                    rw [HFU.out.2]
                    by_cases e : i = k
                    · subst e; rw [upd_same]
                    · rw [upd_other _ _ e]
                case measure => simp [intOf]; omega
              refine AllReadyH.cons (o := { dst := some 52, op := .load 41 (.tmp 51), type := _, pos := _, after := _, guard := _ }) rfl (fun K hK => ?_) ?_
              · have cl : Y0.cell? ⟨r, 2 + k, none⟩ = some (.slice A (s1.que k).length cq) := (HB.out.cell (p := ⟨r, 2 + k, none⟩) l1).trans a1
                go_simp
                refine hK.out _ _ (HK.out _ HB.out) (fun _ => ?_)
                clear hK K cl
                try simp only [Act.put, List.setIfInBounds_toArray, List.set_cons_zero, List.set_cons_succ]
                refine wpAnyH_ready (rs := [2, 27]) (by kernel_rfl) (by simp) ?_
                refine AllReadyH.cons (o := { dst := some 46, op := .buildSlice 41 0 #[], type := _, pos := _, after := _, guard := _ }) rfl (fun K hK => ?_) ?_
                · go_simp
                  refine hK.out _ _ (HK.out _ (HB.out.alloc HB.out.size (.cells #[] 63))) (fun _ => ?_)
                  clear hK K
                  try simp only [Act.put, List.setIfInBounds_toArray, List.set_cons_zero, List.set_cons_succ]
                  have HB2 := Lib.hid (HB.out.alloc HB.out.size (.cells #[] 63))
                  have sb := HB.out.size
                  have OA2 := Lib.hid (own_emptyN Y0 63 (base := W4.heap.size) sb)
                  have na : W4.heap.size ≤ Y0.heap.size := sb
                  have la2 : Y0.heap.size < (Y0.alloc (.cells #[] 63)).heap.size := by simp
                  generalize Y0.alloc (.cells #[] 63) = Y17 at *
                  clear HB sb
                  generalize Y0.heap.size = ga at *
                  have HB := HB2
                  clear HB2
                  have OA := OA2
                  clear OA2
                  have la := la2
                  clear la2
                  refine wpAnyH_ready (rs := [9, 27]) (by kernel_rfl) (by simp) ?_
                  refine AllReadyH.cons (o := { dst := some 53, op := .call { callee := .builtin .append, args := #[.tmp 46, .tmp 52], argTypes := #[41, 41] }, type := _, pos := _, after := _, guard := _ }) rfl (fun K hK => ?_) ?_
                  · refine Law.step_append_seq _ W4.heap.size 41 rfl (.tmp 46) (.tmp 52) rfl HE.out (.slice (some ⟨ga, 0, none⟩) 0 0) 0 [] (by simp [Act.eval]) (by exact OA.out) 0 W4.heap.size A (s1.que k).length cq (flatE (s1.que k)) (by simp [Act.eval]) (flatE_length _) (HSQ.out.below HB.out) (flatE_one _) (by unfold maxLen; omega) (by omega) HB.out.size ?_
                    intro v18 Y18 own grow
                    have hb2 : Below W4.heap.size W4 Y18 := HB.out.grown grow HB.out.size (fun g hg => by have h9 : ga = g := Option.some.inj hg; omega)
                    refine hK.out _ _ (HK.out _ hb2) (fun _ => ?_)
                    clear hK K
                    try simp only [Act.put, List.setIfInBounds_toArray, List.set_cons_zero, List.set_cons_succ]
                    have OA2 : Hid (Y18.ownsRow W4.heap.size 63 8 v18 (s1.que k).length (flatE (s1.que k))) := by show World.ownsRow _ _ _ _ _ _ _; simpa using own
                    have HB2 := Lib.hid hb2
                    obtain ⟨A5, c5, rfl, _⟩ := own_shape OA2.out
                    clear own grow hb2 HB OA la
                    have HB := HB2
                    have OA := OA2
                    clear HB2 OA2
                    refine wpAnyH_ready (rs := [27]) (by kernel_rfl) (by simp) ?_
                    refine AllReadyH.cons (o := { dst := some 71, op := .buildSlice 41 1 #[(0, .tmp 70)], type := _, pos := _, after := _, guard := _ }) rfl (fun K hK => ?_) AllReadyH.nil
                    go_simp
                    refine hK.out _ _ (HK.out _ (HB.out.alloc HB.out.size (.cells #[.string cg.us, .int .i64 cg.o1, .int .i64 cg.o2, .int .i64 cg.o3, .int .i64 cg.n1, .int .i64 cg.n2, .int .i64 cg.n3, .int .u64 seq] 63))) (fun _ => ?_)
                    clear hK K
                    try simp only [Act.put, List.setIfInBounds_toArray, List.set_cons_zero, List.set_cons_succ]
                    have HB2 := Lib.hid (HB.out.alloc HB.out.size (.cells #[.string cg.us, .int .i64 cg.o1, .int .i64 cg.o2, .int .i64 cg.o3, .int .i64 cg.n1, .int .i64 cg.n2, .int .i64 cg.n3, .int .u64 seq] 63))
                    have sb := HB.out.size
                    have OA2 := Lib.hid (OA.out.alloc (.cells #[.string cg.us, .int .i64 cg.o1, .int .i64 cg.o2, .int .i64 cg.o3, .int .i64 cg.n1, .int .i64 cg.n2, .int .i64 cg.n3, .int .u64 seq] 63))
                    have IC2 := Lib.hid (Is.new Y18 63 #[.string cg.us, .int .i64 cg.o1, .int .i64 cg.o2, .int .i64 cg.o3, .int .i64 cg.n1, .int .i64 cg.n2, .int .i64 cg.n3, .int .u64 seq] rfl)
                    generalize Y18.alloc (.cells #[.string cg.us, .int .i64 cg.o1, .int .i64 cg.o2, .int .i64 cg.o3, .int .i64 cg.n1, .int .i64 cg.n2, .int .i64 cg.n3, .int .u64 seq] 63) = Y19 at *
                    clear HB sb OA
                    generalize Y18.heap.size = gc at *
                    have HB := HB2
                    clear HB2
                    have OA := OA2
                    clear OA2
                    have IC := IC2
                    clear IC2
                    refine wpAnyH_ready (rs := [28]) (by kernel_rfl) (by simp) ?_
                    refine AllReadyH.cons (o := { dst := some 72, op := .call { callee := .builtin .append, args := #[.tmp 53, .tmp 71], argTypes := #[41, 41] }, type := _, pos := _, after := _, guard := _ }) rfl (fun K hK => ?_) AllReadyH.nil
                    refine Law.step_append_seq _ W4.heap.size 41 rfl (.tmp 53) (.tmp 71) rfl HE.out (.slice A5 (s1.que k).length c5) (s1.que k).length (flatE (s1.que k)) (by simp [Act.eval]) (by exact OA.out) gc (gc + 1) (some ⟨gc, 0, none⟩) 1 1 (cellsE (cg.ev seq)) (by simp [Act.eval]) rfl (seq_box IC.out) (one_E _) (by unfold maxLen; omega) (by omega) HB.out.size ?_
                    intro v20 Y20 own grow
                    have hb2 : Below W4.heap.size W4 Y20 := HB.out.grown grow HB.out.size (fun g hg => (OA.out.lt g hg).1)
                    refine hK.out _ _ (HK.out _ hb2) (fun _ => ?_)
                    clear hK K
                    try simp only [Act.put, List.setIfInBounds_toArray, List.set_cons_zero, List.set_cons_succ]
                    have OA2 : Hid (Y20.ownsRow W4.heap.size 63 8 v20 ((s1.que k).length + 1) (flatE (s1.que k ++ [cg.ev seq]))) := by show World.ownsRow _ _ _ _ _ _ _; rw [flatE_snoc]; exact own
                    have HB2 := Lib.hid hb2
                    obtain ⟨A7, c7, rfl, _⟩ := own_shape OA2.out
                    clear own grow hb2 HB OA IC
                    have HB := HB2
                    have OA := OA2
                    clear HB2 OA2
                    refine wpAnyH_take (i := 31) (oi := { dst := some 75, op := .indexAddr 78 (.tmp 74) (.tmp 45), type := _, pos := _, after := _, guard := _ }) (v := .pointer (some ⟨r, 2 + k, none⟩)) rfl (by kernel_rfl) (by kernel_rfl) (by kernel_rfl) (fun _ _ _ h => h) (Or.inl ⟨by rfl, ?_⟩) (HK.out _ HB.out) ?_
                    · intro w' hSw
                      go_simp; (try (intro h8; omega))
                    try simp only [Act.put, List.setIfInBounds_toArray, List.set_cons_zero, List.set_cons_succ]
                    refine wpAnyH_ready (rs := [32]) (by kernel_rfl) (by simp) ?_
                    refine AllReadyH.cons (o := { dst := none, op := .store 41 (.tmp 75) (.tmp 72), type := _, pos := _, after := _, guard := _ }) rfl (fun K hK => ?_) AllReadyH.nil
                    have I7 := HV4.out.box.below HB.out HV4.out.box.lt
                    have b1 : Y20.cell? ⟨r, 2 + k, none⟩ = some (.slice A (s1.que k).length cq) := (HB.out.cell (p := ⟨r, 2 + k, none⟩) l1).trans a1
                    have g1 := I7.frozen (2 + k)
                    have k1 := I7.lt
                    clear I7
                    go_simp
                    refine hK.out _ _ (HK2.out _ HB.out _) (fun _ => ?_)
                    clear hK K b1 g1 k1
                    try simp only [Act.put, List.setIfInBounds_toArray, List.set_cons_zero, List.set_cons_succ]
                    refine wpAnyH_done (by kernel_rfl) ?_ _
                    have HFIN := Lib.hid (room_left HV4.out hk HB.out OA.out)
                    go_wp2_with fail
                    go_roundw
                    case rel =>
                      obtain ⟨R7, hR7, hW7⟩ := HFIN.out
                      refine ⟨k + 1, by omega, by go_num, R7, ?_, HW4.out.trans hW7⟩
                      rw [HE1.out, HS.out]
                      refine hR7.congr (fun i => ?_) (fun i => ?_)
                      · show _ = upd s1.que k _ i
                        rw [HFU.out.1]
                      · show _ = upd s1.los k _ i
                        rw [HFU.out.2]
                        by_cases e : i = k
                        · subst e; rw [upd_same]
                        · rw [upd_other _ _ e]
                    case measure => simp [intOf]; omega
                  refine AllReadyH.cons (o := { dst := some 71, op := .buildSlice 41 1 #[(0, .tmp 70)], type := _, pos := _, after := _, guard := _ }) rfl (fun K hK => ?_) AllReadyH.nil
                  go_simp
                  refine hK.out _ _ (HK.out _ (HB.out.alloc HB.out.size (.cells #[.string cg.us, .int .i64 cg.o1, .int .i64 cg.o2, .int .i64 cg.o3, .int .i64 cg.n1, .int .i64 cg.n2, .int .i64 cg.n3, .int .u64 seq] 63))) (fun _ => ?_)
                  clear hK K
                  try simp only [Act.put, List.setIfInBounds_toArray, List.set_cons_zero, List.set_cons_succ]
                  have HB2 := Lib.hid (HB.out.alloc HB.out.size (.cells #[.string cg.us, .int .i64 cg.o1, .int .i64 cg.o2, .int .i64 cg.o3, .int .i64 cg.n1, .int .i64 cg.n2, .int .i64 cg.n3, .int .u64 seq] 63))
                  have sb := HB.out.size
                  have OA2 := Lib.hid (OA.out.alloc (.cells #[.string cg.us, .int .i64 cg.o1, .int .i64 cg.o2, .int .i64 cg.o3, .int .i64 cg.n1, .int .i64 cg.n2, .int .i64 cg.n3, .int .u64 seq] 63))
                  have IC2 := Lib.hid (Is.new Y17 63 #[.string cg.us, .int .i64 cg.o1, .int .i64 cg.o2, .int .i64 cg.o3, .int .i64 cg.n1, .int .i64 cg.n2, .int .i64 cg.n3, .int .u64 seq] rfl)
                  have nac : ga ≠ Y17.heap.size := by omega
                  have la2 : ga < (Y17.alloc (.cells #[.string cg.us, .int .i64 cg.o1, .int .i64 cg.o2, .int .i64 cg.o3, .int .i64 cg.n1, .int .i64 cg.n2, .int .i64 cg.n3, .int .u64 seq] 63)).heap.size := by simp; omega
                  generalize Y17.alloc (.cells #[.string cg.us, .int .i64 cg.o1, .int .i64 cg.o2, .int .i64 cg.o3, .int .i64 cg.n1, .int .i64 cg.n2, .int .i64 cg.n3, .int .u64 seq] 63) = Y22 at *
                  clear HB sb OA la
                  generalize Y17.heap.size = gc at *
                  have HB := HB2
                  clear HB2
                  have OA := OA2
                  clear OA2
                  have IC := IC2
                  clear IC2
                  have la := la2
                  clear la2
                  refine wpAnyH_ready (rs := [9]) (by kernel_rfl) (by simp) ?_
                  refine AllReadyH.cons (o := { dst := some 53, op := .call { callee := .builtin .append, args := #[.tmp 46, .tmp 52], argTypes := #[41, 41] }, type := _, pos := _, after := _, guard := _ }) rfl (fun K hK => ?_) AllReadyH.nil
                  refine Law.step_append_seq _ W4.heap.size 41 rfl (.tmp 46) (.tmp 52) rfl HE.out (.slice (some ⟨ga, 0, none⟩) 0 0) 0 [] (by simp [Act.eval]) (by exact OA.out) 0 W4.heap.size A (s1.que k).length cq (flatE (s1.que k)) (by simp [Act.eval]) (flatE_length _) (HSQ.out.below HB.out) (flatE_one _) (by unfold maxLen; omega) (by omega) HB.out.size ?_
                  intro v23 Y23 own grow
                  have hb2 : Below W4.heap.size W4 Y23 := HB.out.grown grow HB.out.size (fun g hg => by have h9 : ga = g := Option.some.inj hg; omega)
                  refine hK.out _ _ (HK.out _ hb2) (fun _ => ?_)
                  clear hK K
                  try simp only [Act.put, List.setIfInBounds_toArray, List.set_cons_zero, List.set_cons_succ]
                  have OA2 : Hid (Y23.ownsRow W4.heap.size 63 8 v23 (s1.que k).length (flatE (s1.que k))) := by show World.ownsRow _ _ _ _ _ _ _; simpa using own
                  have HB2 := Lib.hid hb2
                  have IC2 : Hid (Is Y23 gc 63 #[.string cg.us, .int .i64 cg.o1, .int .i64 cg.o2, .int .i64 cg.o3, .int .i64 cg.n1, .int .i64 cg.n2, .int .i64 cg.n3, .int .u64 seq]) := (grow.block gc IC.out.lt (fun h => nac (Option.some.inj h).symm)).trans IC.out
                  obtain ⟨A5, c5, rfl, _⟩ := own_shape OA2.out
                  clear own grow hb2 HB OA la IC nac
                  have HB := HB2
                  have OA := OA2
                  clear HB2 OA2
                  have IC := IC2
                  clear IC2
                  refine wpAnyH_ready (rs := [28]) (by kernel_rfl) (by simp) ?_
                  refine AllReadyH.cons (o := { dst := some 72, op := .call { callee := .builtin .append, args := #[.tmp 53, .tmp 71], argTypes := #[41, 41] }, type := _, pos := _, after := _, guard := _ }) rfl (fun K hK => ?_) AllReadyH.nil
                  refine Law.step_append_seq _ W4.heap.size 41 rfl (.tmp 53) (.tmp 71) rfl HE.out (.slice A5 (s1.que k).length c5) (s1.que k).length (flatE (s1.que k)) (by simp [Act.eval]) (by exact OA.out) gc (gc + 1) (some ⟨gc, 0, none⟩) 1 1 (cellsE (cg.ev seq)) (by simp [Act.eval]) rfl (seq_box IC.out) (one_E _) (by unfold maxLen; omega) (by omega) HB.out.size ?_
                  intro v24 Y24 own grow
                  have hb2 : Below W4.heap.size W4 Y24 := HB.out.grown grow HB.out.size (fun g hg => (OA.out.lt g hg).1)
                  refine hK.out _ _ (HK.out _ hb2) (fun _ => ?_)
                  clear hK K
                  try simp only [Act.put, List.setIfInBounds_toArray, List.set_cons_zero, List.set_cons_succ]
                  have OA2 : Hid (Y24.ownsRow W4.heap.size 63 8 v24 ((s1.que k).length + 1) (flatE (s1.que k ++ [cg.ev seq]))) := by show World.ownsRow _ _ _ _ _ _ _; rw [flatE_snoc]; exact own
                  have HB2 := Lib.hid hb2
                  obtain ⟨A7, c7, rfl, _⟩ := own_shape OA2.out
                  clear own grow hb2 HB OA IC
                  have HB := HB2
                  have OA := OA2
                  clear HB2 OA2
                  refine wpAnyH_take (i := 31) (oi := { dst := some 75, op := .indexAddr 78 (.tmp 74) (.tmp 45), type := _, pos := _, after := _, guard := _ }) (v := .pointer (some ⟨r, 2 + k, none⟩)) rfl (by kernel_rfl) (by kernel_rfl) (by kernel_rfl) (fun _ _ _ h => h) (Or.inl ⟨by rfl, ?_⟩) (HK.out _ HB.out) ?_
                  · intro w' hSw
                    go_simp; (try (intro h8; omega))
                  try simp only [Act.put, List.setIfInBounds_toArray, List.set_cons_zero, List.set_cons_succ]
                  refine wpAnyH_ready (rs := [32]) (by kernel_rfl) (by simp) ?_
                  refine AllReadyH.cons (o := { dst := none, op := .store 41 (.tmp 75) (.tmp 72), type := _, pos := _, after := _, guard := _ }) rfl (fun K hK => ?_) AllReadyH.nil
                  have I7 := HV4.out.box.below HB.out HV4.out.box.lt
                  have b1 : Y24.cell? ⟨r, 2 + k, none⟩ = some (.slice A (s1.que k).length cq) := (HB.out.cell (p := ⟨r, 2 + k, none⟩) l1).trans a1
                  have g1 := I7.frozen (2 + k)
                  have k1 := I7.lt
                  clear I7
                  go_simp
                  refine hK.out _ _ (HK2.out _ HB.out _) (fun _ => ?_)
                  clear hK K b1 g1 k1
                  try simp only [Act.put, List.setIfInBounds_toArray, List.set_cons_zero, List.set_cons_succ]
                  refine wpAnyH_done (by kernel_rfl) ?_ _
                  have HFIN := Lib.hid (room_left HV4.out hk HB.out OA.out)
                  go_wp2_with fail
                  go_roundw
                  case rel =>
                    obtain ⟨R7, hR7, hW7⟩ := HFIN.out
                    refine ⟨k + 1, by omega, by go_num, R7, ?_, HW4.out.trans hW7⟩
                    rw [HE1.out, HS.out]
                    refine hR7.congr (fun i => ?_) (fun i => ?_)
                    · show _ = upd s1.que k _ i
                      rw [HFU.out.1]
                    · show _ = upd s1.los k _ i
                      rw [HFU.out.2]
                      by_cases e : i = k
                      · subst e; rw [upd_same]
                      · rw [upd_other _ _ e]
                  case measure => simp [intOf]; omega
                refine AllReadyH.cons (o := { dst := some 71, op := .buildSlice 41 1 #[(0, .tmp 70)], type := _, pos := _, after := _, guard := _ }) rfl (fun K hK => ?_) AllReadyH.nil
                go_simp
                refine hK.out _ _ (HK.out _ (HB.out.alloc HB.out.size (.cells #[.string cg.us, .int .i64 cg.o1, .int .i64 cg.o2, .int .i64 cg.o3, .int .i64 cg.n1, .int .i64 cg.n2, .int .i64 cg.n3, .int .u64 seq] 63))) (fun _ => ?_)
                clear hK K
                try simp only [Act.put, List.setIfInBounds_toArray, List.set_cons_zero, List.set_cons_succ]
                have HB2 := Lib.hid (HB.out.alloc HB.out.size (.cells #[.string cg.us, .int .i64 cg.o1, .int .i64 cg.o2, .int .i64 cg.o3, .int .i64 cg.n1, .int .i64 cg.n2, .int .i64 cg.n3, .int .u64 seq] 63))
                have sb := HB.out.size
                have IC2 := Lib.hid (Is.new Y0 63 #[.string cg.us, .int .i64 cg.o1, .int .i64 cg.o2, .int .i64 cg.o3, .int .i64 cg.n1, .int .i64 cg.n2, .int .i64 cg.n3, .int .u64 seq] rfl)
                generalize Y0.alloc (.cells #[.string cg.us, .int .i64 cg.o1, .int .i64 cg.o2, .int .i64 cg.o3, .int .i64 cg.n1, .int .i64 cg.n2, .int .i64 cg.n3, .int .u64 seq] 63) = Y26 at *
                clear HB sb
                generalize Y0.heap.size = gc at *
                have HB := HB2
                clear HB2
                have IC := IC2
                clear IC2
                refine wpAnyH_ready (rs := [2]) (by kernel_rfl) (by simp) ?_
                refine AllReadyH.cons (o := { dst := some 46, op := .buildSlice 41 0 #[], type := _, pos := _, after := _, guard := _ }) rfl (fun K hK => ?_) AllReadyH.nil
                go_simp
                refine hK.out _ _ (HK.out _ (HB.out.alloc HB.out.size (.cells #[] 63))) (fun _ => ?_)
                clear hK K
                try simp only [Act.put, List.setIfInBounds_toArray, List.set_cons_zero, List.set_cons_succ]
                have HB2 := Lib.hid (HB.out.alloc HB.out.size (.cells #[] 63))
                have sb := HB.out.size
                have IC2 := Lib.hid (IC.out.alloc (.cells #[] 63))
                have lc := IC.out.lt
                have OA2 := Lib.hid (own_emptyN Y26 63 (base := W4.heap.size) sb)
                have na : W4.heap.size ≤ Y26.heap.size := sb
                have nac : Y26.heap.size ≠ gc := by omega
                have la2 : Y26.heap.size < (Y26.alloc (.cells #[] 63)).heap.size := by simp
                generalize Y26.alloc (.cells #[] 63) = Y27 at *
                clear HB sb IC lc
                generalize Y26.heap.size = ga at *
                have HB := HB2
                clear HB2
                have OA := OA2
                clear OA2
                have IC := IC2
                clear IC2
                have la := la2
                clear la2
                refine wpAnyH_ready (rs := [9]) (by kernel_rfl) (by simp) ?_
                refine AllReadyH.cons (o := { dst := some 53, op := .call { callee := .builtin .append, args := #[.tmp 46, .tmp 52], argTypes := #[41, 41] }, type := _, pos := _, after := _, guard := _ }) rfl (fun K hK => ?_) AllReadyH.nil
                refine Law.step_append_seq _ W4.heap.size 41 rfl (.tmp 46) (.tmp 52) rfl HE.out (.slice (some ⟨ga, 0, none⟩) 0 0) 0 [] (by simp [Act.eval]) (by exact OA.out) 0 W4.heap.size A (s1.que k).length cq (flatE (s1.que k)) (by simp [Act.eval]) (flatE_length _) (HSQ.out.below HB.out) (flatE_one _) (by unfold maxLen; omega) (by omega) HB.out.size ?_
                intro v28 Y28 own grow
                have hb2 : Below W4.heap.size W4 Y28 := HB.out.grown grow HB.out.size (fun g hg => by have h9 : ga = g := Option.some.inj hg; omega)
                refine hK.out _ _ (HK.out _ hb2) (fun _ => ?_)
                clear hK K
                try simp only [Act.put, List.setIfInBounds_toArray, List.set_cons_zero, List.set_cons_succ]
                have OA2 : Hid (Y28.ownsRow W4.heap.size 63 8 v28 (s1.que k).length (flatE (s1.que k))) := by show World.ownsRow _ _ _ _ _ _ _; simpa using own
                have HB2 := Lib.hid hb2
                have IC2 : Hid (Is Y28 gc 63 #[.string cg.us, .int .i64 cg.o1, .int .i64 cg.o2, .int .i64 cg.o3, .int .i64 cg.n1, .int .i64 cg.n2, .int .i64 cg.n3, .int .u64 seq]) := (grow.block gc IC.out.lt (fun h => nac (Option.some.inj h).symm)).trans IC.out
                obtain ⟨A5, c5, rfl, _⟩ := own_shape OA2.out
                clear own grow hb2 HB OA la IC nac
                have HB := HB2
                have OA := OA2
                clear HB2 OA2
                have IC := IC2
                clear IC2
                refine wpAnyH_ready (rs := [28]) (by kernel_rfl) (by simp) ?_
                refine AllReadyH.cons (o := { dst := some 72, op := .call { callee := .builtin .append, args := #[.tmp 53, .tmp 71], argTypes := #[41, 41] }, type := _, pos := _, after := _, guard := _ }) rfl (fun K hK => ?_) AllReadyH.nil
                refine Law.step_append_seq _ W4.heap.size 41 rfl (.tmp 53) (.tmp 71) rfl HE.out (.slice A5 (s1.que k).length c5) (s1.que k).length (flatE (s1.que k)) (by simp [Act.eval]) (by exact OA.out) gc (gc + 1) (some ⟨gc, 0, none⟩) 1 1 (cellsE (cg.ev seq)) (by simp [Act.eval]) rfl (seq_box IC.out) (one_E _) (by unfold maxLen; omega) (by omega) HB.out.size ?_
                intro v29 Y29 own grow
                have hb2 : Below W4.heap.size W4 Y29 := HB.out.grown grow HB.out.size (fun g hg => (OA.out.lt g hg).1)
                refine hK.out _ _ (HK.out _ hb2) (fun _ => ?_)
                clear hK K
                try simp only [Act.put, List.setIfInBounds_toArray, List.set_cons_zero, List.set_cons_succ]
                have OA2 : Hid (Y29.ownsRow W4.heap.size 63 8 v29 ((s1.que k).length + 1) (flatE (s1.que k ++ [cg.ev seq]))) := by show World.ownsRow _ _ _ _ _ _ _; rw [flatE_snoc]; exact own
                have HB2 := Lib.hid hb2
                obtain ⟨A7, c7, rfl, _⟩ := own_shape OA2.out
                clear own grow hb2 HB OA IC
                have HB := HB2
                have OA := OA2
                clear HB2 OA2
                refine wpAnyH_take (i := 31) (oi := { dst := some 75, op := .indexAddr 78 (.tmp 74) (.tmp 45), type := _, pos := _, after := _, guard := _ }) (v := .pointer (some ⟨r, 2 + k, none⟩)) rfl (by kernel_rfl) (by kernel_rfl) (by kernel_rfl) (fun _ _ _ h => h) (Or.inl ⟨by rfl, ?_⟩) (HK.out _ HB.out) ?_
                · intro w' hSw
                  go_simp; (try (intro h8; omega))
                try simp only [Act.put, List.setIfInBounds_toArray, List.set_cons_zero, List.set_cons_succ]
                refine wpAnyH_ready (rs := [32]) (by kernel_rfl) (by simp) ?_
                refine AllReadyH.cons (o := { dst := none, op := .store 41 (.tmp 75) (.tmp 72), type := _, pos := _, after := _, guard := _ }) rfl (fun K hK => ?_) AllReadyH.nil
                have I7 := HV4.out.box.below HB.out HV4.out.box.lt
                have b1 : Y29.cell? ⟨r, 2 + k, none⟩ = some (.slice A (s1.que k).length cq) := (HB.out.cell (p := ⟨r, 2 + k, none⟩) l1).trans a1
                have g1 := I7.frozen (2 + k)
                have k1 := I7.lt
                clear I7
                go_simp
                refine hK.out _ _ (HK2.out _ HB.out _) (fun _ => ?_)
                clear hK K b1 g1 k1
                try simp only [Act.put, List.setIfInBounds_toArray, List.set_cons_zero, List.set_cons_succ]
                refine wpAnyH_done (by kernel_rfl) ?_ _
                have HFIN := Lib.hid (room_left HV4.out hk HB.out OA.out)
                go_wp2_with fail
                go_roundw
                case rel =>
                  obtain ⟨R7, hR7, hW7⟩ := HFIN.out
                  refine ⟨k + 1, by omega, by go_num, R7, ?_, HW4.out.trans hW7⟩
                  rw [HE1.out, HS.out]
                  refine hR7.congr (fun i => ?_) (fun i => ?_)
                  · show _ = upd s1.que k _ i
                    rw [HFU.out.1]
                  · show _ = upd s1.los k _ i
                    rw [HFU.out.2]
                    by_cases e : i = k
                    · subst e; rw [upd_same]
                    · rw [upd_other _ _ e]
                case measure => simp [intOf]; omega
              refine AllReadyH.cons (o := { dst := some 71, op := .buildSlice 41 1 #[(0, .tmp 70)], type := _, pos := _, after := _, guard := _ }) rfl (fun K hK => ?_) AllReadyH.nil
              go_simp
              refine hK.out _ _ (HK.out _ (HB.out.alloc HB.out.size (.cells #[.string cg.us, .int .i64 cg.o1, .int .i64 cg.o2, .int .i64 cg.o3, .int .i64 cg.n1, .int .i64 cg.n2, .int .i64 cg.n3, .int .u64 seq] 63))) (fun _ => ?_)
              clear hK K
              try simp only [Act.put, List.setIfInBounds_toArray, List.set_cons_zero, List.set_cons_succ]
              have HB2 := Lib.hid (HB.out.alloc HB.out.size (.cells #[.string cg.us, .int .i64 cg.o1, .int .i64 cg.o2, .int .i64 cg.o3, .int .i64 cg.n1, .int .i64 cg.n2, .int .i64 cg.n3, .int .u64 seq] 63))
              have sb := HB.out.size
              have IC2 := Lib.hid (Is.new Y0 63 #[.string cg.us, .int .i64 cg.o1, .int .i64 cg.o2, .int .i64 cg.o3, .int .i64 cg.n1, .int .i64 cg.n2, .int .i64 cg.n3, .int .u64 seq] rfl)
              generalize Y0.alloc (.cells #[.string cg.us, .int .i64 cg.o1, .int .i64 cg.o2, .int .i64 cg.o3, .int .i64 cg.n1, .int .i64 cg.n2, .int .i64 cg.n3, .int .u64 seq] 63) = Y31 at *
              clear HB sb
              generalize Y0.heap.size = gc at *
              have HB := HB2
              clear HB2
              have IC := IC2
              clear IC2
              refine wpAnyH_ready (rs := [2, 8]) (by kernel_rfl) (by simp) ?_
              refine AllReadyH.cons (o := { dst := some 46, op := .buildSlice 41 0 #[], type := _, pos := _, after := _, guard := _ }) rfl (fun K hK => ?_) ?_
              · go_simp
                refine hK.out _ _ (HK.out _ (HB.out.alloc HB.out.size (.cells #[] 63))) (fun _ => ?_)
                clear hK K
                try simp only [Act.put, List.setIfInBounds_toArray, List.set_cons_zero, List.set_cons_succ]
                have HB2 := Lib.hid (HB.out.alloc HB.out.size (.cells #[] 63))
                have sb := HB.out.size
                have IC2 := Lib.hid (IC.out.alloc (.cells #[] 63))
                have lc := IC.out.lt
                have OA2 := Lib.hid (own_emptyN Y31 63 (base := W4.heap.size) sb)
                have na : W4.heap.size ≤ Y31.heap.size := sb
                have nac : Y31.heap.size ≠ gc := by omega
                have la2 : Y31.heap.size < (Y31.alloc (.cells #[] 63)).heap.size := by simp
                generalize Y31.alloc (.cells #[] 63) = Y32 at *
                clear HB sb IC lc
                generalize Y31.heap.size = ga at *
                have HB := HB2
                clear HB2
                have OA := OA2
                clear OA2
                have IC := IC2
                clear IC2
                have la := la2
                clear la2
                refine wpAnyH_ready (rs := [8]) (by kernel_rfl) (by simp) ?_
                refine AllReadyH.cons (o := { dst := some 52, op := .load 41 (.tmp 51), type := _, pos := _, after := _, guard := _ }) rfl (fun K hK => ?_) AllReadyH.nil
                have cl : Y32.cell? ⟨r, 2 + k, none⟩ = some (.slice A (s1.que k).length cq) := (HB.out.cell (p := ⟨r, 2 + k, none⟩) l1).trans a1
                go_simp
                refine hK.out _ _ (HK.out _ HB.out) (fun _ => ?_)
                clear hK K cl
                try simp only [Act.put, List.setIfInBounds_toArray, List.set_cons_zero, List.set_cons_succ]
                refine wpAnyH_ready (rs := [9]) (by kernel_rfl) (by simp) ?_
                refine AllReadyH.cons (o := { dst := some 53, op := .call { callee := .builtin .append, args := #[.tmp 46, .tmp 52], argTypes := #[41, 41] }, type := _, pos := _, after := _, guard := _ }) rfl (fun K hK => ?_) AllReadyH.nil
                refine Law.step_append_seq _ W4.heap.size 41 rfl (.tmp 46) (.tmp 52) rfl HE.out (.slice (some ⟨ga, 0, none⟩) 0 0) 0 [] (by simp [Act.eval]) (by exact OA.out) 0 W4.heap.size A (s1.que k).length cq (flatE (s1.que k)) (by simp [Act.eval]) (flatE_length _) (HSQ.out.below HB.out) (flatE_one _) (by unfold maxLen; omega) (by omega) HB.out.size ?_
                intro v34 Y34 own grow
                have hb2 : Below W4.heap.size W4 Y34 := HB.out.grown grow HB.out.size (fun g hg => by have h9 : ga = g := Option.some.inj hg; omega)
                refine hK.out _ _ (HK.out _ hb2) (fun _ => ?_)
                clear hK K
                try simp only [Act.put, List.setIfInBounds_toArray, List.set_cons_zero, List.set_cons_succ]
                have OA2 : Hid (Y34.ownsRow W4.heap.size 63 8 v34 (s1.que k).length (flatE (s1.que k))) := by show World.ownsRow _ _ _ _ _ _ _; simpa using own
                have HB2 := Lib.hid hb2
                have IC2 : Hid (Is Y34 gc 63 #[.string cg.us, .int .i64 cg.o1, .int .i64 cg.o2, .int .i64 cg.o3, .int .i64 cg.n1, .int .i64 cg.n2, .int .i64 cg.n3, .int .u64 seq]) := (grow.block gc IC.out.lt (fun h => nac (Option.some.inj h).symm)).trans IC.out
                obtain ⟨A5, c5, rfl, _⟩ := own_shape OA2.out
                clear own grow hb2 HB OA la IC nac
                have HB := HB2
                have OA := OA2
                clear HB2 OA2
                have IC := IC2
                clear IC2
                refine wpAnyH_ready (rs := [28]) (by kernel_rfl) (by simp) ?_
                refine AllReadyH.cons (o := { dst := some 72, op := .call { callee := .builtin .append, args := #[.tmp 53, .tmp 71], argTypes := #[41, 41] }, type := _, pos := _, after := _, guard := _ }) rfl (fun K hK => ?_) AllReadyH.nil
                refine Law.step_append_seq _ W4.heap.size 41 rfl (.tmp 53) (.tmp 71) rfl HE.out (.slice A5 (s1.que k).length c5) (s1.que k).length (flatE (s1.que k)) (by simp [Act.eval]) (by exact OA.out) gc (gc + 1) (some ⟨gc, 0, none⟩) 1 1 (cellsE (cg.ev seq)) (by simp [Act.eval]) rfl (seq_box IC.out) (one_E _) (by unfold maxLen; omega) (by omega) HB.out.size ?_
                intro v35 Y35 own grow
                have hb2 : Below W4.heap.size W4 Y35 := HB.out.grown grow HB.out.size (fun g hg => (OA.out.lt g hg).1)
                refine hK.out _ _ (HK.out _ hb2) (fun _ => ?_)
                clear hK K
                try simp only [Act.put, List.setIfInBounds_toArray, List.set_cons_zero, List.set_cons_succ]
                have OA2 : Hid (Y35.ownsRow W4.heap.size 63 8 v35 ((s1.que k).length + 1) (flatE (s1.que k ++ [cg.ev seq]))) := by show World.ownsRow _ _ _ _ _ _ _; rw [flatE_snoc]; exact own
                have HB2 := Lib.hid hb2
                obtain ⟨A7, c7, rfl, _⟩ := own_shape OA2.out
                clear own grow hb2 HB OA IC
                have HB := HB2
                have OA := OA2
                clear HB2 OA2
                refine wpAnyH_take (i := 31) (oi := { dst := some 75, op := .indexAddr 78 (.tmp 74) (.tmp 45), type := _, pos := _, after := _, guard := _ }) (v := .pointer (some ⟨r, 2 + k, none⟩)) rfl (by kernel_rfl) (by kernel_rfl) (by kernel_rfl) (fun _ _ _ h => h) (Or.inl ⟨by rfl, ?_⟩) (HK.out _ HB.out) ?_
                · intro w' hSw
                  go_simp; (try (intro h8; omega))
                try simp only [Act.put, List.setIfInBounds_toArray, List.set_cons_zero, List.set_cons_succ]
                refine wpAnyH_ready (rs := [32]) (by kernel_rfl) (by simp) ?_
                refine AllReadyH.cons (o := { dst := none, op := .store 41 (.tmp 75) (.tmp 72), type := _, pos := _, after := _, guard := _ }) rfl (fun K hK => ?_) AllReadyH.nil
                have I7 := HV4.out.box.below HB.out HV4.out.box.lt
                have b1 : Y35.cell? ⟨r, 2 + k, none⟩ = some (.slice A (s1.que k).length cq) := (HB.out.cell (p := ⟨r, 2 + k, none⟩) l1).trans a1
                have g1 := I7.frozen (2 + k)
                have k1 := I7.lt
                clear I7
                go_simp
                refine hK.out _ _ (HK2.out _ HB.out _) (fun _ => ?_)
                clear hK K b1 g1 k1
                try simp only [Act.put, List.setIfInBounds_toArray, List.set_cons_zero, List.set_cons_succ]
                refine wpAnyH_done (by kernel_rfl) ?_ _
                have HFIN := Lib.hid (room_left HV4.out hk HB.out OA.out)
                go_wp2_with fail
                go_roundw
                case rel =>
                  obtain ⟨R7, hR7, hW7⟩ := HFIN.out
                  refine ⟨k + 1, by omega, by go_num, R7, ?_, HW4.out.trans hW7⟩
                  rw [HE1.out, HS.out]
                  refine hR7.congr (fun i => ?_) (fun i => ?_)
                  · show _ = upd s1.que k _ i
                    rw [HFU.out.1]
                  · show _ = upd s1.los k _ i
                    rw [HFU.out.2]
                    by_cases e : i = k
                    · subst e; rw [upd_same]
                    · rw [upd_other _ _ e]
                case measure => simp [intOf]; omega
              refine AllReadyH.cons (o := { dst := some 52, op := .load 41 (.tmp 51), type := _, pos := _, after := _, guard := _ }) rfl (fun K hK => ?_) AllReadyH.nil
              have cl : Y31.cell? ⟨r, 2 + k, none⟩ = some (.slice A (s1.que k).length cq) := (HB.out.cell (p := ⟨r, 2 + k, none⟩) l1).trans a1
              go_simp
              refine hK.out _ _ (HK.out _ HB.out) (fun _ => ?_)
              clear hK K cl
              try simp only [Act.put, List.setIfInBounds_toArray, List.set_cons_zero, List.set_cons_succ]
              refine wpAnyH_ready (rs := [2]) (by kernel_rfl) (by simp) ?_
              refine AllReadyH.cons (o := { dst := some 46, op := .buildSlice 41 0 #[], type := _, pos := _, after := _, guard := _ }) rfl (fun K hK => ?_) AllReadyH.nil
              go_simp
              refine hK.out _ _ (HK.out _ (HB.out.alloc HB.out.size (.cells #[] 63))) (fun _ => ?_)
              clear hK K
              try simp only [Act.put, List.setIfInBounds_toArray, List.set_cons_zero, List.set_cons_succ]
              have HB2 := Lib.hid (HB.out.alloc HB.out.size (.cells #[] 63))
              have sb := HB.out.size
              have IC2 := Lib.hid (IC.out.alloc (.cells #[] 63))
              have lc := IC.out.lt
              have OA2 := Lib.hid (own_emptyN Y31 63 (base := W4.heap.size) sb)
              have na : W4.heap.size ≤ Y31.heap.size := sb
              have nac : Y31.heap.size ≠ gc := by omega
              have la2 : Y31.heap.size < (Y31.alloc (.cells #[] 63)).heap.size := by simp
              generalize Y31.alloc (.cells #[] 63) = Y38 at *
              clear HB sb IC lc
              generalize Y31.heap.size = ga at *
              have HB := HB2
              clear HB2
              have OA := OA2
              clear OA2
              have IC := IC2
              clear IC2
              have la := la2
              clear la2
              refine wpAnyH_ready (rs := [9]) (by kernel_rfl) (by simp) ?_
              refine AllReadyH.cons (o := { dst := some 53, op := .call { callee := .builtin .append, args := #[.tmp 46, .tmp 52], argTypes := #[41, 41] }, type := _, pos := _, after := _, guard := _ }) rfl (fun K hK => ?_) AllReadyH.nil
              refine Law.step_append_seq _ W4.heap.size 41 rfl (.tmp 46) (.tmp 52) rfl HE.out (.slice (some ⟨ga, 0, none⟩) 0 0) 0 [] (by simp [Act.eval]) (by exact OA.out) 0 W4.heap.size A (s1.que k).length cq (flatE (s1.que k)) (by simp [Act.eval]) (flatE_length _) (HSQ.out.below HB.out) (flatE_one _) (by unfold maxLen; omega) (by omega) HB.out.size ?_
              intro v39 Y39 own grow
              have hb2 : Below W4.heap.size W4 Y39 := HB.out.grown grow HB.out.size (fun g hg => by have h9 : ga = g := Option.some.inj hg; omega)
              refine hK.out _ _ (HK.out _ hb2) (fun _ => ?_)
              clear hK K
              try simp only [Act.put, List.setIfInBounds_toArray, List.set_cons_zero, List.set_cons_succ]
              have OA2 : Hid (Y39.ownsRow W4.heap.size 63 8 v39 (s1.que k).length (flatE (s1.que k))) := by show World.ownsRow _ _ _ _ _ _ _; simpa using own
              have HB2 := Lib.hid hb2
              have IC2 : Hid (Is Y39 gc 63 #[.string cg.us, .int .i64 cg.o1, .int .i64 cg.o2, .int .i64 cg.o3, .int .i64 cg.n1, .int .i64 cg.n2, .int .i64 cg.n3, .int .u64 seq]) := (grow.block gc IC.out.lt (fun h => nac (Option.some.inj h).symm)).trans IC.out
              obtain ⟨A5, c5, rfl, _⟩ := own_shape OA2.out
              clear own grow hb2 HB OA la IC nac
              have HB := HB2
              have OA := OA2
              clear HB2 OA2
              have IC := IC2
              clear IC2
              refine wpAnyH_ready (rs := [28]) (by kernel_rfl) (by simp) ?_
              refine AllReadyH.cons (o := { dst := some 72, op := .call { callee := .builtin .append, args := #[.tmp 53, .tmp 71], argTypes := #[41, 41] }, type := _, pos := _, after := _, guard := _ }) rfl (fun K hK => ?_) AllReadyH.nil
              refine Law.step_append_seq _ W4.heap.size 41 rfl (.tmp 53) (.tmp 71) rfl HE.out (.slice A5 (s1.que k).length c5) (s1.que k).length (flatE (s1.que k)) (by simp [Act.eval]) (by exact OA.out) gc (gc + 1) (some ⟨gc, 0, none⟩) 1 1 (cellsE (cg.ev seq)) (by simp [Act.eval]) rfl (seq_box IC.out) (one_E _) (by unfold maxLen; omega) (by omega) HB.out.size ?_
              intro v40 Y40 own grow
              have hb2 : Below W4.heap.size W4 Y40 := HB.out.grown grow HB.out.size (fun g hg => (OA.out.lt g hg).1)
              refine hK.out _ _ (HK.out _ hb2) (fun _ => ?_)
              clear hK K
              try simp only [Act.put, List.setIfInBounds_toArray, List.set_cons_zero, List.set_cons_succ]
              have OA2 : Hid (Y40.ownsRow W4.heap.size 63 8 v40 ((s1.que k).length + 1) (flatE (s1.que k ++ [cg.ev seq]))) := by show World.ownsRow _ _ _ _ _ _ _; rw [flatE_snoc]; exact own
              have HB2 := Lib.hid hb2
              obtain ⟨A7, c7, rfl, _⟩ := own_shape OA2.out
              clear own grow hb2 HB OA IC
              have HB := HB2
              have OA := OA2
              clear HB2 OA2
              refine wpAnyH_take (i := 31) (oi := { dst := some 75, op := .indexAddr 78 (.tmp 74) (.tmp 45), type := _, pos := _, after := _, guard := _ }) (v := .pointer (some ⟨r, 2 + k, none⟩)) rfl (by kernel_rfl) (by kernel_rfl) (by kernel_rfl) (fun _ _ _ h => h) (Or.inl ⟨by rfl, ?_⟩) (HK.out _ HB.out) ?_
              · intro w' hSw
                go_simp; (try (intro h8; omega))
              try simp only [Act.put, List.setIfInBounds_toArray, List.set_cons_zero, List.set_cons_succ]
              refine wpAnyH_ready (rs := [32]) (by kernel_rfl) (by simp) ?_
              refine AllReadyH.cons (o := { dst := none, op := .store 41 (.tmp 75) (.tmp 72), type := _, pos := _, after := _, guard := _ }) rfl (fun K hK => ?_) AllReadyH.nil
              have I7 := HV4.out.box.below HB.out HV4.out.box.lt
              have b1 : Y40.cell? ⟨r, 2 + k, none⟩ = some (.slice A (s1.que k).length cq) := (HB.out.cell (p := ⟨r, 2 + k, none⟩) l1).trans a1
              have g1 := I7.frozen (2 + k)
              have k1 := I7.lt
              clear I7
              go_simp
              refine hK.out _ _ (HK2.out _ HB.out _) (fun _ => ?_)
              clear hK K b1 g1 k1
              try simp only [Act.put, List.setIfInBounds_toArray, List.set_cons_zero, List.set_cons_succ]
              refine wpAnyH_done (by kernel_rfl) ?_ _
              have HFIN := Lib.hid (room_left HV4.out hk HB.out OA.out)
              go_wp2_with fail
              go_roundw
              case rel =>
                obtain ⟨R7, hR7, hW7⟩ := HFIN.out
                refine ⟨k + 1, by omega, by go_num, R7, ?_, HW4.out.trans hW7⟩
                rw [HE1.out, HS.out]
                refine hR7.congr (fun i => ?_) (fun i => ?_)
                · show _ = upd s1.que k _ i
                  rw [HFU.out.1]
                · show _ = upd s1.los k _ i
                  rw [HFU.out.2]
                  by_cases e : i = k
                  · subst e; rw [upd_same]
                  · rw [upd_other _ _ e]
              case measure => simp [intOf]; omega
        · obtain rfl : k = 8 := by omega
          have d1 : decide (((8 : Nat) : Int) < 8) = false := by decide
          go_wp2_with fail
          go_roundw
          case rel => exact ⟨j + 1, by omega, by go_num, R2, by rw [HST.out]; exact HA2.out, by rw [HST.out] at *; exact HW2.out⟩
          case measure => simp [intOf]; omega
    · have d0 : decide ((j : Int) < (cgs.length : Int)) = false := by simp; omega
      have e1 : cgs.take j = cgs := List.take_of_length_le (by omega)
      rw [e1] at HA1
      go_wp2_with fail
      go_end0
      exact ⟨rfl, R1, HA1.out, HW1.out⟩
end Feed
end Go.Proofs.YtohdlnefgieenaaGreat
/-
  What the reference's (layer 9) Merge comes to.
-/
namespace Go.Law
theorem Lain.at {t : TypeId} {w : World} {A : Option Addr} {l : List (RowV Ev)} {i : Nat} (h : Lain t w A (l.flatMap cellsR)) (hi : i < l.length) : ∃ g off cs, A = some ⟨g, off, none⟩ ∧ Is w g t cs ∧ cs[off + i]? = some (.slice l[i].A l[i].xs.length l[i].c) := by
  have e : (l.flatMap cellsR)[i]? = some (.slice l[i].A l[i].xs.length l[i].c) := by
    have := rows_at cellsR (sz := 1) (fun _ => rfl) (List.getElem?_eq_getElem hi) (j := 0) (by decide)
    simpa [cellsR] using this
  obtain ⟨g, off, cs, hA, hi', hc⟩ := h (by intro h0; rw [h0] at e; simp at e)
  exact ⟨g, off, cs, hA, hi', hc i _ e⟩
theorem rows_set (l : List (RowV Ev)) (i : Nat) (q : RowV Ev) : (l.set i q).flatMap cellsR = (l.flatMap cellsR).set i (.slice q.A q.xs.length q.c) := by
  induction l generalizing i with
  | nil => simp
  | cons p r ih =>
    cases i with
    | zero => simp [cellsR]
    | succ i => simp [cellsR, ih]
theorem Lain.set {t : TypeId} {w : World} {g off : Nat} {l : List (RowV Ev)} {i : Nat} (h : Lain t w (some ⟨g, off, none⟩) (l.flatMap cellsR)) (q : RowV Ev) (hi : i < l.length) : Lain t (w.setCell ⟨g, off + i, none⟩ (.slice q.A q.xs.length q.c)) (some ⟨g, off, none⟩) ((l.set i q).flatMap cellsR) := fun _ => by
  obtain ⟨g', off', cs, hA, hi', hc⟩ := h (by intro h0; have := rows_length cellsR (sz := 1) (fun _ => rfl) l; rw [h0] at this; simp at this; omega)
  obtain ⟨rfl, rfl, _⟩ := by simpa using hA
  refine ⟨g, off, _, rfl, hi'.set _ _ rfl, fun j u hu => ?_⟩
  rw [rows_set, List.getElem?_set] at hu
  rw [Array.getElem?_setIfInBounds]
  by_cases e : i = j
  · subst e
    rw [if_pos rfl] at hu ⊢
    have hlt : i < (l.flatMap cellsR).length := by rw [rows_length cellsR (sz := 1) (fun _ => rfl)]; omega
    rw [if_pos hlt] at hu
    have hcs : off + i < cs.size := (Array.getElem?_eq_some_iff.1 (hc i _ (List.getElem?_eq_getElem hlt))).1
    rw [if_pos hcs]
    exact hu
  · rw [if_neg e] at hu
    rw [if_neg (by omega)]
    exact hc j u hu
theorem own_far {w : World} {base : Nat} {e t : TypeId} {size n : Nat} {v u : Value} {xs : List Value} {g i : Nat} {cs : Array Value} (h : w.ownsRow base e size v n xs) (hi : Is w g t cs) (ht : e ≠ t) : (w.setCell ⟨g, i, none⟩ u).ownsRow base e size v n xs :=
  (Law.Touch.store (T := fun k => k = g) w ⟨g, i, none⟩ u rfl).own h (fun _ hg e' => own_ne h hi ht (e' ▸ hg))
theorem all_pick {L L' : List (List Ev)} {e : Ev} (h : pick L = some (e, L')) : all L = e :: all L' := by
  have t := pick_total h
  unfold all
  rw [t, kway, h]
theorem all_none {L : List (List Ev)} (h : pick L = none) : all L = [] := kway_none h _
theorem mem_total {L : List (List Ev)} {r : List Ev} (h : r ∈ L) : r.length ≤ total L := by
  induction L with
  | nil => cases h
  | cons p q ih =>
    rw [total_cons]
    rcases List.mem_cons.1 h with rfl | h
    · omega
    · have := ih h; omega
/-- which one comes of the lists from i on -/
def Best (L : List (List Ev)) (i : Nat) : Option Nat → Prop
  | none => pick (L.drop i) = none
  | some j => i ≤ j ∧ ∃ x xs, L[j]? = some (x :: xs) ∧ pick (L.drop i) = some (x, (L.drop i).set (j - i) xs)
theorem best_end (L : List (List Ev)) : Best L L.length none := by
  show pick (L.drop L.length) = none
  rw [List.drop_length]; rfl
section
variable {L : List (List Ev)} {i : Nat}
theorem drop_cons (h : i < L.length) : L.drop i = L[i] :: L.drop (i + 1) := List.drop_eq_getElem_cons h
theorem best_empty {B : Option Nat} (hb : Best L (i + 1) B) (h : i < L.length) (he : L[i] = []) : Best L i B := by
  cases B with
  | none =>
    show pick _ = none
    have hb' : pick (L.drop (i + 1)) = none := hb
    rw [drop_cons h, he]
    simp [pick, hb']
  | some j =>
    obtain ⟨h1, x, xs, h2, h3⟩ := hb
    refine ⟨by omega, x, xs, h2, ?_⟩
    rw [drop_cons h, he, show j - i = (j - (i + 1)) + 1 by omega]
    simp [pick, h3]
theorem bestG_first {x : Ev} {xs : List Ev} (hb : Best L (i + 1) none) (h : i < L.length) (he : L[i] = x :: xs) : Best L i (some i) := by
  have hb' : pick (L.drop (i + 1)) = none := hb
  refine ⟨Nat.le_refl _, x, xs, by rw [List.getElem?_eq_getElem h, he], ?_⟩
  rw [drop_cons h, he, Nat.sub_self]
  simp [pick, hb']
theorem best_less {x y : Ev} {xs ys : List Ev} {j : Nat} (hb : Best L (i + 1) (some j)) (h : i < L.length) (he : L[i] = x :: xs) (hj : L[j]? = some (y :: ys)) (hl : x.sq ≤ y.sq) : Best L i (some i) := by
  obtain ⟨h1, x', xs', h2, h3⟩ := hb
  rw [hj] at h2
  obtain ⟨rfl, rfl⟩ := by simpa using h2
  refine ⟨Nat.le_refl _, x, xs, by rw [List.getElem?_eq_getElem h, he], ?_⟩
  rw [drop_cons h, he, Nat.sub_self]
  simp [pick, h3, hl]
theorem best_more {x y : Ev} {xs ys : List Ev} {j : Nat} (hb : Best L (i + 1) (some j)) (h : i < L.length) (he : L[i] = x :: xs) (hj : L[j]? = some (y :: ys)) (hl : ¬ x.sq ≤ y.sq) : Best L i (some j) := by
  obtain ⟨h1, x', xs', h2, h3⟩ := hb
  rw [hj] at h2
  obtain ⟨rfl, rfl⟩ := by simpa using h2
  refine ⟨by omega, _, _, hj, ?_⟩
  rw [drop_cons h, he, show j - i = (j - (i + 1)) + 1 by omega]
  simp [pick, h3, hl]
end
end Go.Law
namespace Go.Proofs.YtohdlnefgieenaaGreat
open Go.RowKit Go.Shelf
attribute [local go_sem] Oper.semAt_some
namespace Feed
open Go.Law
def encB : Option Nat → Int
  | none => -1
  | some j => (j : Int)
theorem elemR : ∃ i, Law.Elem Tryz.prog 89 41 i (.slice none 0 0) 1 24 := Law.Elem.of Tryz.underlying89 (by kernel_rfl) rfl (by decide)
theorem rows_one (l : List (RowV Ev)) : ∀ u ∈ l.flatMap cellsR, u.oneCell' = true := by
  intro u hu
  obtain ⟨q, _, hq⟩ := List.mem_flatMap.1 hu
  simp [cellsR] at hq
  subst hq
  rfl
theorem own_emptyR (w : World) {base : Nat} (e : TypeId) (hb : base ≤ w.heap.size) : (w.alloc (.cells #[] e)).ownsRow base e 1 (.slice (some ⟨w.heap.size, 0, none⟩) 0 0) 0 [] :=
  ⟨rfl, .inr ⟨w.heap.size, 0, #[], rfl, hb, heap_alloc_new w _, Nat.le_refl _, Nat.zero_le _, rfl, rfl⟩⟩
set_option maxRecDepth 100000 in
set_option maxHeartbeats 4000000 in
theorem refMerge (l : List (RowV Ev)) (A : Option Addr) (c : Nat) (w : World) (hR : Rows w A l) (ht : total (evs l) ≤ 500) (hl : l.length ≤ 1000) :
    Calls Tryz.prog 33 #[.slice A l.length c] w (Lists w (all (evs l))) := by
  obtain ⟨i1, hE1⟩ := elemR
  obtain ⟨i0, hE0⟩ := RingE.elem
  have HE := Lib.hid hE0
  have HE1 := Lib.hid hE1
  have HR := Lib.hid hR
  have HO := Lib.hid (own_emptyR w 41 (base := w.heap.size) (Nat.le_refl _))
  have HS1 := Lib.hid (hR.seq.alloc (Nat.le_refl _) (.cells #[] 41))
  clear hE0 hE1 hR
  go_enter Tryz.func33, Tryz.ntmps33
  go_wp2_with (at_builtin; refine Law.wpList_append_seq _ w.heap.size 89 rfl _ _ rfl HE1.out _ 0 [] rfl HO.out 0 w.heap.size A l.length c (l.flatMap cellsR) rfl (by rw [rows_len]; omega) HS1.out (rows_one _) (by unfold maxLen; omega) (by omega) (by simp) ?_; intro v1 w1 hown hgrow)
  have B1 : Below w.heap.size w w1 := ((Below.refl _ w).alloc (Nat.le_refl _) (.cells #[] 41)).grown hgrow (by simp) (fun k hk => by have h9 : w.heap.size = k := Option.some.inj hk; omega)
  have OW : w1.ownsRow w.heap.size 41 1 v1 l.length (l.flatMap cellsR) := by simpa using hown
  obtain ⟨D, cp, rfl, hcp⟩ := own_shape OW
  have HL1 := Lib.hid (Lain.own OW)
  have HG : Hid (∀ g, (Value.slice D l.length cp).ownBlock = some g → w.heap.size ≤ g) := fun g hg => (OW.lt g hg).1
  have HB1 := Lib.hid B1
  obtain ⟨n, hn⟩ : ∃ n, l.length = n := ⟨_, rfl⟩
  have HN := Lib.hid hn
  clear hown hgrow B1 OW HO HS1
  rw [hn] at hcp hl ⊢
  go_loopw [4] (fun vo wr => ∃ (R : List (RowV Ev)) (dn : List Ev), R.length = n ∧ Lain 41 wr D (R.flatMap cellsR) ∧ (∀ q ∈ R, Seq w 0 w.heap.size q.A (flatE q.xs) ∧ q.xs.length ≤ q.c) ∧ wr.ownsRow w.heap.size 63 8 vo dn.length (flatE dn) ∧ Below w.heap.size w wr ∧ all (evs l) = dn ++ all (evs R) ∧ dn.length + total (evs R) ≤ 500) (fun vo _ => 500 - slen vo)
  case atStart => exact ⟨l, [], HN.out, HL1.out, fun q hq => ⟨HR.out.row q hq, HR.out.cap q hq⟩, World.ownsRow_nil _ _ _ _, HB1.out, rfl, by simpa using ht⟩
  case round =>
    clear HL1 HB1 HR
    obtain ⟨R, dn, hRn, hLn, hRow, hOut, hBel, hAll, hTot⟩ := hrel
    have HLn := Lib.hid hLn
    have HRow := Lib.hid hRow
    have HOut := Lib.hid hOut
    have HBel := Lib.hid hBel
    have HAll := Lib.hid hAll
    have HRn := Lib.hid hRn
    have HTot := Lib.hid hTot
    have hdn : dn.length ≤ 500 := by omega
    obtain ⟨Dn, cdn, rfl, hcdn⟩ := own_shape hOut
    clear hLn hRow hOut hBel hAll hRn hTot
    have HEL : Hid ((evs R).length = n) := by show _ = _; rw [← HRn.out]; exact List.length_map ..
    go_wp2_with fail
    go_loopw [5, 6] (fun vb vi wx => ∃ (k : Nat) (B : Option Nat), k ≤ n ∧ vb = .int .i64 (encB B) ∧ vi = .int .i64 ((k : Int) - 1) ∧ Best (evs R) k B ∧ Lain 41 wx D (R.flatMap cellsR) ∧ wx.ownsRow w.heap.size 63 8 (.slice Dn dn.length cdn) dn.length (flatE dn) ∧ Below w.heap.size w wx) (fun _ vi _ => (intOf vi + 1).toNat)
    case atStart => exact ⟨n, none, Nat.le_refl _, rfl, rfl, by have := best_end (evs R); rw [HEL.out] at this; exact this, HLn.out, HOut.out, HBel.out⟩
    case round =>
      clear HLn HOut HBel
      obtain ⟨k, B, hk, rfl, rfl, hBest, hLn, hOut, hBel⟩ := hrel
      have HBest := Lib.hid hBest
      have HLn := Lib.hid hLn
      have HOut := Lib.hid hOut
      have HBel := Lib.hid hBel
      have szx := hBel.size
      clear hBest hLn hOut hBel
      cases k with
      | succ i =>
        rw [show (((i + 1 : Nat) : Int) - 1) = (i : Int) by omega]
        have hi : i < R.length := by have := HRn.out; omega
        have hiE : i < (evs R).length := by have := HEL.out; omega
        have hin : i < n := hk
        obtain ⟨g, off, cs, rfl, hIs, hcs⟩ := HLn.out.at hi
        have c0 : World.cell? _ ⟨g, off + i, none⟩ = some (.slice R[i].A R[i].xs.length R[i].c) := (hIs.cell _).trans hcs
        have lg := hIs.lt
        have HEI : Hid ((evs R)[i] = R[i].xs) := by show _ = _; simp [evs]
        have HRI := Lib.hid (HRow.out _ (List.getElem_mem hi))
        have d1 : decide ((0 : Int) ≤ (i : Int)) = true := by simp
        generalize hq : R[i] = q at *
        clear hIs hcs hq
        obtain ⟨qa, qc, qx⟩ := q
        simp only at c0 HEI HRI
        have hii : (i : Int) < (n : Int) := by omega
        cases qx with
        | nil =>
          have HNB := Lib.hid (best_empty HBest.out hiE HEI.out)
          simp only [List.length_nil] at c0
          go_wp2_with fail
          go_quiet (fail)
          go_wp2_with fail
          have hbq : Below (wr).heap.size wr (wr.drewN nq) := Law.below_drewN (Below.refl _ wr) nq
          have HL2 := Lib.hid (HLn.out.keeps (Keeps.drewN _ wr nq))
          have HO2 := Lib.hid (own_below HOut.out hbq)
          have HB2 := Lib.hid (Law.below_drewN HBel.out nq)
          clear hbq
          go_roundw
          case rel => exact ⟨i, B, by omega, rfl, by first | rfl | go_num, HNB.out, HL2.out, HO2.out, HB2.out⟩
          case measure => simp [intOf] <;> omega
        | cons x xs =>
          obtain ⟨ga, oa, rfl, _, hga, p0, p1, p2, p3, p4, p5, p6, p7⟩ := (HRI.out.1.below HBel.out).ev (i := 0) (by simp)
          simp only [List.getElem_cons_zero, Nat.zero_mul, Nat.add_zero] at p7
          clear p0 p1 p2 p3 p4 p5 p6
          simp only [List.length_cons] at c0
          have hx0 : (x :: xs).length ≤ total (evs R) := by rw [← HEI.out]; exact mem_total (List.getElem_mem hiE)
          have hx1 : xs.length ≤ 500 := by have h1 := HTot.out; simp at hx0; omega
          clear hx0
          cases B with
          | none =>
            have HNB := Lib.hid (bestG_first HBest.out hiE HEI.out)
            simp only [encB]
            go_wp2_with fail
            go_quiet (fail)
            go_wp2_with fail
            have hbq : Below (wr).heap.size wr (wr.drewN nq) := Law.below_drewN (Below.refl _ wr) nq
            have HL2 := Lib.hid (HLn.out.keeps (Keeps.drewN _ wr nq))
            have HO2 := Lib.hid (own_below HOut.out hbq)
            have HB2 := Lib.hid (Law.below_drewN HBel.out nq)
            clear hbq
            go_roundw
            case rel => exact ⟨i, some i, by omega, rfl, by first | rfl | go_num, HNB.out, HL2.out, HO2.out, HB2.out⟩
            case measure => simp [intOf] <;> omega
          | some j =>
            obtain ⟨hj1, y, ys, hj2, _⟩ := HBest.out
            have hjE : j < (evs R).length := (List.getElem?_eq_some_iff.1 hj2).1
            have hj : j < R.length := by have h1 := HEL.out; have h2 := HRn.out; omega
            have hjn : j < n := by have := HRn.out; omega
            have hji : (j : Int) < (n : Int) := by omega
            obtain ⟨g', off', cs', hg', hIs, hcs⟩ := HLn.out.at hj
            obtain ⟨rfl, rfl, _⟩ := by simpa using hg'
            have c1 : World.cell? _ ⟨g, off + j, none⟩ = some (.slice R[j].A R[j].xs.length R[j].c) := (hIs.cell _).trans hcs
            have h9 : (evs R)[j]? = some R[j].xs := by simp [evs, hj]
            have HEJ : Hid (R[j].xs = y :: ys) := Option.some.inj (h9.symm.trans hj2)
            clear h9
            have HRJ := Lib.hid (HRow.out _ (List.getElem_mem hj))
            generalize hq : R[j] = q at *
            clear hIs hcs hq hg'
            obtain ⟨ra, rc, rx⟩ := q
            simp only at c1 HEJ HRJ
            obtain rfl : rx = y :: ys := HEJ.out
            obtain ⟨gb, ob, rfl, _, hgb, q0, q1, q2, q3, q4, q5, q6, q7⟩ := (HRJ.out.1.below HBel.out).ev (i := 0) (by simp)
            simp only [List.getElem_cons_zero, Nat.zero_mul, Nat.add_zero] at q7
            clear q0 q1 q2 q3 q4 q5 q6
            simp only [List.length_cons] at c1
            have d2 : decide ((j : Int) < 0) = false := by simp
            simp only [encB]
            by_cases hle : x.sq ≤ y.sq
            · have HNB := Lib.hid (best_less HBest.out hiE HEI.out hj2 hle)
              have d3 : decide (x.sq ≤ y.sq) = true := by simpa using hle
              clear hj2
              go_wp2_with fail
              go_quiet (fail)
              go_wp2_with fail
              have hbq : Below (wr).heap.size wr (wr.drewN nq) := Law.below_drewN (Below.refl _ wr) nq
              have HL2 := Lib.hid (HLn.out.keeps (Keeps.drewN _ wr nq))
              have HO2 := Lib.hid (own_below HOut.out hbq)
              have HB2 := Lib.hid (Law.below_drewN HBel.out nq)
              clear hbq
              go_roundw
              case rel => exact ⟨i, some i, by omega, rfl, by first | rfl | go_num, HNB.out, HL2.out, HO2.out, HB2.out⟩
              case measure => simp [intOf] <;> omega
            · have HNB := Lib.hid (best_more HBest.out hiE HEI.out hj2 hle)
              have d3 : decide (x.sq ≤ y.sq) = false := by simpa using hle
              clear hj2
              go_wp2_with fail
              go_quiet (fail)
              go_wp2_with fail
              have hbq : Below (wr).heap.size wr (wr.drewN nq) := Law.below_drewN (Below.refl _ wr) nq
              have HL2 := Lib.hid (HLn.out.keeps (Keeps.drewN _ wr nq))
              have HO2 := Lib.hid (own_below HOut.out hbq)
              have HB2 := Lib.hid (Law.below_drewN HBel.out nq)
              clear hbq
              go_roundw
              case rel => exact ⟨i, some j, by omega, rfl, by first | rfl | go_num, HNB.out, HL2.out, HO2.out, HB2.out⟩
              case measure => simp [intOf] <;> omega
      | zero =>
        have d1 : decide ((0 : Int) ≤ ((0 : Nat) : Int) - 1) = false := by decide
        cases B with
        | none =>
          have HD : Hid (all (evs l) = dn) := by show _ = _; rw [HAll.out, all_none (show pick (evs R) = none from HBest.out)]; simp
          simp only [encB]
          go_wp2_with fail
          go_ret
          exact ⟨Dn, cdn, by rw [HD.out]; rfl, by rw [HD.out]; exact hcdn, by rw [HD.out]; exact Seq.own HOut.out, HBel.out⟩
        | some j =>
          obtain ⟨_, y, ys, hj2, hpk⟩ := HBest.out
          rw [List.drop_zero, Nat.sub_zero] at hpk
          have hjE : j < (evs R).length := (List.getElem?_eq_some_iff.1 hj2).1
          have hj : j < R.length := by have h1 := HEL.out; have h2 := HRn.out; omega
          have hjn : j < n := by have := HRn.out; omega
          have hji : (j : Int) < (n : Int) := by omega
          obtain ⟨g, off, cs, rfl, hIs, hcs⟩ := HLn.out.at hj
          have c1 : World.cell? _ ⟨g, off + j, none⟩ = some (.slice R[j].A R[j].xs.length R[j].c) := (hIs.cell _).trans hcs
          have f1 := hIs.frozen (off + j)
          have lg := hIs.lt
          have HIS := Lib.hid hIs
          have h9 : (evs R)[j]? = some R[j].xs := by simp [evs, hj]
          have HEJ : Hid (R[j].xs = y :: ys) := Option.some.inj (h9.symm.trans hj2)
          have HRJ := Lib.hid (HRow.out _ (List.getElem_mem hj))
          have HPK := Lib.hid hpk
          have HEQ : Hid ((evs R)[j] = y :: ys) := Option.some.inj ((List.getElem?_eq_getElem hjE).symm.trans hj2)
          have HCS0 := Lib.hid hcs
          clear h9 hj2 hpk hIs hcs
          obtain ⟨q, hq⟩ : ∃ q, R[j] = q := ⟨_, rfl⟩
          rw [hq] at c1 HEJ HRJ HCS0
          clear hq
          obtain ⟨ra, rc, rx⟩ := q
          simp only at c1 HEJ HRJ HCS0
          obtain rfl : rx = y :: ys := HEJ.out
          obtain ⟨gb, ob, rfl, _, hgb, q0, q1, q2, q3, q4, q5, q6, q7⟩ := (HRJ.out.1.below HBel.out).ev (i := 0) (by simp)
          have HCS : Hid (cs[off + j]? = some (.slice (some ⟨gb, ob, none⟩) (ys.length + 1) rc)) := HCS0.out
          simp only [List.getElem_cons_zero, Nat.zero_mul, Nat.add_zero] at q0 q1 q2 q3 q4 q5 q6 q7
          have lgb := Nat.lt_of_lt_of_le hgb szx
          simp only [List.length_cons] at c1
          have d2 : decide ((j : Int) < 0) = false := by simp
          simp only [encB]
          have HTL : Hid (Seq w 0 w.heap.size (if rc = 1 then some ⟨gb, ob, none⟩ else some ⟨gb, ob + 8, none⟩) (flatE ys)) := tail_if HRJ.out.1 (by simpa using HRJ.out.2)
          have HES : ∀ a k, Hid (evs (R.set j ⟨a, k, ys⟩) = (evs R).set j ys) := fun a k => by show _ = _; unfold evs; rw [List.map_set]
          have h1y : (1 : Int) ≤ (ys.length : Int) + 1 := by omega
          have hy1 : ys.length ≤ 500 := by have h1 := HTot.out; have h2 := pick_total HPK.out; have h3 := mem_total (L := evs R) (r := y :: ys) (by have h4 := List.getElem_mem hjE; rwa [show (evs R)[j] = y :: ys from HEQ.out] at h4); simp at h3; omega
          by_cases hc1 : rc = 1
          · have HES := HES (some ⟨gb, ob, none⟩) 0
            rw [if_pos hc1] at HTL
            go_wp2_with (at_builtin; refine wpList_append_own _ rfl _ _ 41 rfl w.heap.size 63 i0 (.agg #[.string ⟨#[]⟩, .int .i64 0, .int .i64 0, .int .i64 0, .int .i64 0, .int .i64 0, .int .i64 0, .int .u64 0]) 8 72 HE.out.ut HE.out.info HE.out.zero HE.out.sz HE.out.by_ HE.out.cells HE.out.pos _ _ _ rfl (HOut.out.alloc _) ⟨wr.heap.size, 0, none⟩ 1 1 (cellsE y) rfl rfl (new_E wr y _ rfl) (one_E y) (by unfold maxLen; omega) (by omega) (by simp; omega) ?_; intro v' w2 hown' hgrow _; obtain ⟨g', cap', rfl⟩ := ownsRow_succ hown'; have K2 : Keeps 41 wr w2 := (Keeps.alloc _).trans (Keeps.grown (HOut.out.alloc _) hgrow (by decide)); have HL2 := Lib.hid (HLn.out.keeps K2); have HO2 : Hid (w2.ownsRow w.heap.size 63 8 (.slice (some ⟨g', 0, none⟩) (dn.length + 1) cap') (dn.length + 1) (flatE dn ++ cellsE y)) := hown'; have HB2 := Lib.hid ((HBel.out.alloc szx _).grown hgrow (by simp; omega) (fun k hk => (HOut.out.lt k hk).1)); have I2 := K2.is HIS.out; have HI2 := Lib.hid I2; have c2 : w2.cell? ⟨g, off + j, none⟩ = some (.slice (some ⟨gb, ob, none⟩) (ys.length + 1) rc) := (I2.cell _).trans HCS.out; have f2 := I2.frozen (off + j); have lg2 := I2.lt; clear hown' hgrow K2 I2 c1 f1 lg)
            go_roundw
            case rel =>
              refine ⟨R.set j ⟨some ⟨gb, ob, none⟩, 0, ys⟩, dn ++ [y], by rw [List.length_set]; exact HRn.out, HL2.out.set ⟨some ⟨gb, ob, none⟩, 0, ys⟩ hj, ?_, ?_, HB2.out.setCell (HG.out g rfl) _, ?_, ?_⟩
              · intro q hq
                rcases List.mem_or_eq_of_mem_set hq with h | h
                · exact HRow.out q h
                · subst h; exact ⟨HTL.out, by have := HRJ.out.2; simp only [List.length_cons] at this; simp only; omega⟩
              · rw [flatE_snoc, List.length_append]; exact own_far HO2.out HI2.out (by decide)
              · rw [HAll.out, all_pick HPK.out, HES.out]; simp
              · have h1 := HTot.out; have h2 := pick_total HPK.out; rw [HES.out]; simp; omega
            case measure => simp [slen]; have h1 := HTot.out; have h2 := pick_total HPK.out; omega
          · have HES := HES (some ⟨gb, ob + 8, none⟩) (rc - 1)
            rw [if_neg hc1] at HTL
            go_wp2_with (at_builtin; refine wpList_append_own _ rfl _ _ 41 rfl w.heap.size 63 i0 (.agg #[.string ⟨#[]⟩, .int .i64 0, .int .i64 0, .int .i64 0, .int .i64 0, .int .i64 0, .int .i64 0, .int .u64 0]) 8 72 HE.out.ut HE.out.info HE.out.zero HE.out.sz HE.out.by_ HE.out.cells HE.out.pos _ _ _ rfl (HOut.out.alloc _) ⟨wr.heap.size, 0, none⟩ 1 1 (cellsE y) rfl rfl (new_E wr y _ rfl) (one_E y) (by unfold maxLen; omega) (by omega) (by simp; omega) ?_; intro v' w2 hown' hgrow _; obtain ⟨g', cap', rfl⟩ := ownsRow_succ hown'; have K2 : Keeps 41 wr w2 := (Keeps.alloc _).trans (Keeps.grown (HOut.out.alloc _) hgrow (by decide)); have HL2 := Lib.hid (HLn.out.keeps K2); have HO2 : Hid (w2.ownsRow w.heap.size 63 8 (.slice (some ⟨g', 0, none⟩) (dn.length + 1) cap') (dn.length + 1) (flatE dn ++ cellsE y)) := hown'; have HB2 := Lib.hid ((HBel.out.alloc szx _).grown hgrow (by simp; omega) (fun k hk => (HOut.out.lt k hk).1)); have I2 := K2.is HIS.out; have HI2 := Lib.hid I2; have c2 : w2.cell? ⟨g, off + j, none⟩ = some (.slice (some ⟨gb, ob, none⟩) (ys.length + 1) rc) := (I2.cell _).trans HCS.out; have f2 := I2.frozen (off + j); have lg2 := I2.lt; clear hown' hgrow K2 I2 c1 f1 lg)
            go_roundw
            case rel =>
              refine ⟨R.set j ⟨some ⟨gb, ob + 8, none⟩, rc - 1, ys⟩, dn ++ [y], by rw [List.length_set]; exact HRn.out, HL2.out.set ⟨some ⟨gb, ob + 8, none⟩, rc - 1, ys⟩ hj, ?_, ?_, HB2.out.setCell (HG.out g rfl) _, ?_, ?_⟩
              · intro q hq
                rcases List.mem_or_eq_of_mem_set hq with h | h
                · exact HRow.out q h
                · subst h; exact ⟨HTL.out, by have := HRJ.out.2; simp only [List.length_cons] at this; simp only; omega⟩
              · rw [flatE_snoc, List.length_append]; exact own_far HO2.out HI2.out (by decide)
              · rw [HAll.out, all_pick HPK.out, HES.out]; simp
              · have h1 := HTot.out; have h2 := pick_total HPK.out; rw [HES.out]; simp; omega
            case measure => simp [slen]; have h1 := HTot.out; have h2 := pick_total HPK.out; omega
end Feed
end Go.Proofs.YtohdlnefgieenaaGreat
