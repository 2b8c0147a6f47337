/-
  What the calls of a feed (layer 9) come to: Unwatch, of who is no client, New, Drain.
-/
import Derived.Test.YtohdlnefgieenaaGreatJ16
namespace Go.Proofs.YtohdlnefgieenaaGreat
open Go.RowKit Go.Shelf
attribute [local go_sem] Oper.semAt_some
namespace Feed
open Go.Law
set_option maxRecDepth 100000 in
set_option maxHeartbeats 1000000 in
theorem unwatch {w : World} {base b room k : Nat} {S : Nat → Prop} {s : St} (h : Fed w base S b room s) (hk : k < 8) (u : ByteArray) (hl : (s.wat k).length ≤ 999) :
    Calls Tryz.prog 51 #[.pointer (some ⟨b, 0, none⟩), .int .i64 (k : Int), .string u] w fun e w' => e = .returned (.tuple #[]) ∧ Fed w' base S b room { s with wat := upd s.wat k (outK u (s.wat k)) } ∧ Went w S w' S := by
  obtain ⟨p, g, Sk, h⟩ := h
  have HC := Lib.hid (client_yes hk)
  have HF := Lib.hid h
  have HG := Lib.hid (OmapU.withoutM u (h.tree k hk) (Nat.le_refl _) (h.rise k hk) hl)
  have c0 : w.cell? ⟨b, k, none⟩ = some (.pointer (p k)) := (h.box.cell k).trans (by simpa using cellsF_wat p g hk)
  have hk1 : k ≤ 7 := by omega
  have lb := h.box.lt
  clear h
  go_enter Tryz.func51, Tryz.ntmps51
  go_wp2_with fail
  refine (HC.out w).mono ?_
  rintro e w' ⟨rfl, rfl⟩
  go_wp2_with fail
  have HF1 : Hid (FedV w.drew base S b room p g Sk s) := HF.out.touch (Law.Touch.drewN w 1 fun _ => False) (fun _ _ h => h) (Keeps.drewN _ w 1)
  have hbd : Below w.heap.size w w.drew := Law.below_drewN (Below.refl _ w) 1
  have HBD := Lib.hid hbd
  have HZ := Lib.hid (outK_rises OmapU.lt (k := u) (HF.out.rise k hk))
  clear hbd
  refine wp_region_held_drew (S := fun _ => True) (by kernel_rfl) trivial (fun hS0 => ?_)
  refine wpAnyH_take (i := 0) (oi := { dst := some 8, op := .move (.tmp 0), type := _, pos := _, after := _, guard := _ }) (v := .pointer (some ⟨b, 0, none⟩)) rfl (by kernel_rfl) (by kernel_rfl) (by kernel_rfl) (fun _ _ _ h => h) (Or.inl ⟨by rfl, ?_⟩) hS0 ?_
  · intro w' hSw
    go_simp
  try simp only [Act.put, List.setIfInBounds_toArray, List.set_cons_zero, List.set_cons_succ]
  refine wpAnyH_take (i := 1) (oi := { dst := some 9, op := .move (.tmp 1), type := _, pos := _, after := _, guard := _ }) (v := .int .i64 (k : Int)) rfl (by kernel_rfl) (by kernel_rfl) (by kernel_rfl) (fun _ _ _ h => h) (Or.inl ⟨by rfl, ?_⟩) hS0 ?_
  · intro w' hSw
    go_simp
  try simp only [Act.put, List.setIfInBounds_toArray, List.set_cons_zero, List.set_cons_succ]
  refine wpAnyH_take (i := 2) (oi := { dst := some 10, op := .move (.tmp 0), type := _, pos := _, after := _, guard := _ }) (v := .pointer (some ⟨b, 0, none⟩)) rfl (by kernel_rfl) (by kernel_rfl) (by kernel_rfl) (fun _ _ _ h => h) (Or.inl ⟨by rfl, ?_⟩) hS0 ?_
  · intro w' hSw
    go_simp
  try simp only [Act.put, List.setIfInBounds_toArray, List.set_cons_zero, List.set_cons_succ]
  refine wpAnyH_take (i := 3) (oi := { dst := some 11, op := .move (.tmp 1), type := _, pos := _, after := _, guard := _ }) (v := .int .i64 (k : Int)) rfl (by kernel_rfl) (by kernel_rfl) (by kernel_rfl) (fun _ _ _ h => h) (Or.inl ⟨by rfl, ?_⟩) hS0 ?_
  · intro w' hSw
    go_simp
  try simp only [Act.put, List.setIfInBounds_toArray, List.set_cons_zero, List.set_cons_succ]
  refine wpAnyH_take (i := 4) (oi := { dst := some 12, op := .nilCheck (.tmp 10), type := _, pos := _, after := _, guard := _ }) (v := .pointer (some ⟨b, 0, none⟩)) rfl (by kernel_rfl) (by kernel_rfl) (by kernel_rfl) (fun _ _ _ h => h) (Or.inl ⟨by rfl, ?_⟩) hS0 ?_
  · intro w' hSw
    go_simp
  try simp only [Act.put, List.setIfInBounds_toArray, List.set_cons_zero, List.set_cons_succ]
  refine wpAnyH_take (i := 5) (oi := { dst := some 13, op := .fieldAddr 121 (.tmp 12) 0, type := _, pos := _, after := _, guard := _ }) (v := .pointer (some ⟨b, 0, none⟩)) rfl (by kernel_rfl) (by kernel_rfl) (by kernel_rfl) (fun _ _ _ h => h) (Or.inl ⟨by rfl, ?_⟩) hS0 ?_
  · intro w' hSw
    go_simp
  try simp only [Act.put, List.setIfInBounds_toArray, List.set_cons_zero, List.set_cons_succ]
  refine wpAnyH_take (i := 6) (oi := { dst := some 14, op := .indexAddr 117 (.tmp 13) (.tmp 11), type := _, pos := _, after := _, guard := _ }) (v := .pointer (some ⟨b, k, none⟩)) rfl (by kernel_rfl) (by kernel_rfl) (by kernel_rfl) (fun _ _ _ h => h) (Or.inl ⟨by rfl, ?_⟩) hS0 ?_
  · intro w' hSw
    go_simp; (try (intro h8; omega))
  try simp only [Act.put, List.setIfInBounds_toArray, List.set_cons_zero, List.set_cons_succ]
  refine wpAnyH_take (i := 8) (oi := { dst := some 16, op := .move (.tmp 2), type := _, pos := _, after := _, guard := _ }) (v := .string u) rfl (by kernel_rfl) (by kernel_rfl) (by kernel_rfl) (fun _ _ _ h => h) (Or.inl ⟨by rfl, ?_⟩) hS0 ?_
  · intro w' hSw
    go_simp
  try simp only [Act.put, List.setIfInBounds_toArray, List.set_cons_zero, List.set_cons_succ]
  refine wpAnyH_take (i := 10) (oi := { dst := some 18, op := .nilCheck (.tmp 8), type := _, pos := _, after := _, guard := _ }) (v := .pointer (some ⟨b, 0, none⟩)) rfl (by kernel_rfl) (by kernel_rfl) (by kernel_rfl) (fun _ _ _ h => h) (Or.inl ⟨by rfl, ?_⟩) hS0 ?_
  · intro w' hSw
    go_simp
  try simp only [Act.put, List.setIfInBounds_toArray, List.set_cons_zero, List.set_cons_succ]
  refine wpAnyH_take (i := 11) (oi := { dst := some 19, op := .fieldAddr 121 (.tmp 18) 0, type := _, pos := _, after := _, guard := _ }) (v := .pointer (some ⟨b, 0, none⟩)) rfl (by kernel_rfl) (by kernel_rfl) (by kernel_rfl) (fun _ _ _ h => h) (Or.inl ⟨by rfl, ?_⟩) hS0 ?_
  · intro w' hSw
    go_simp
  try simp only [Act.put, List.setIfInBounds_toArray, List.set_cons_zero, List.set_cons_succ]
  refine wpAnyH_ready (rs := [7]) (by kernel_rfl) (by simp) ?_
  refine AllReadyH.cons (o := { dst := some 15, op := .load 116 (.tmp 14), type := _, pos := _, after := _, guard := _ }) rfl (fun K hK => ?_) AllReadyH.nil
  go_simp
  refine hK.out _ _ trivial (fun hS1 => ?_)
  clear hK K
  try simp only [Act.put, List.setIfInBounds_toArray, List.set_cons_zero, List.set_cons_succ]
  refine wpAnyH_ready (rs := [9]) (by kernel_rfl) (by simp) ?_
  refine AllReadyH.cons (o := { dst := some 17, op := .call { callee := .value (.func 81), args := #[.tmp 15, .tmp 16], argTypes := _ }, type := _, pos := _, after := _, guard := _ }) rfl (fun K hK => ?_) AllReadyH.nil
  go_simp
  refine Calls.mono (OmapU.withoutM u (HF1.out.tree k hk) (Nat.le_refl _) (HF1.out.rise k hk) hl) ?_
  rintro e w1 ⟨p1, rfl, t1, b1⟩
  have T1 := Lib.hid t1
  have B1 := Lib.hid b1
  clear t1 b1
  go_wp2_with fail
  refine hK.out _ _ trivial (fun hS2 => ?_)
  clear hK K
  try simp only [Act.put, List.setIfInBounds_toArray, List.set_cons_zero, List.set_cons_succ]
  refine wpAnyH_take (i := 12) (oi := { dst := some 20, op := .indexAddr 117 (.tmp 19) (.tmp 9), type := _, pos := _, after := _, guard := _ }) (v := .pointer (some ⟨b, k, none⟩)) rfl (by kernel_rfl) (by kernel_rfl) (by kernel_rfl) (fun _ _ _ h => h) (Or.inl ⟨by rfl, ?_⟩) hS2 ?_
  · intro w' hSw
    go_simp; (try (intro h8; omega))
  try simp only [Act.put, List.setIfInBounds_toArray, List.set_cons_zero, List.set_cons_succ]
  have I1 := (HF1.out.below B1.out).box
  have c1 : w1.cell? ⟨b, k, none⟩ = some (.pointer (p k)) := (I1.cell k).trans (by simpa using cellsF_wat p g hk)
  have f1 := I1.frozen k
  have l1 := I1.lt
  clear I1
  refine wpAnyH_ready (rs := [13]) (by kernel_rfl) (by simp) ?_
  refine AllReadyH.cons (o := { dst := none, op := .store 116 (.tmp 20) (.tmp 17), type := _, pos := _, after := _, guard := _ }) rfl (fun K hK => ?_) AllReadyH.nil
  go_simp
  refine hK.out _ _ trivial (fun hS3 => ?_)
  clear hK K
  try simp only [Act.put, List.setIfInBounds_toArray, List.set_cons_zero, List.set_cons_succ]
  refine wpAnyH_done (by kernel_rfl) ?_ _
  go_wp2_with fail
  go_end0
  exact ⟨rfl, ⟨_, _, _, HF1.out.watched hk B1.out T1.out HZ.out⟩, Went.trans (Went.of_below HBD.out) ⟨(Law.Touch.of_below B1.out S).trans (Law.Touch.store w1 ⟨b, k, none⟩ _ HF1.out.inn) (fun n hn => .inl hn), fun n hn => .inl hn, fun t ht _ _ => (Keeps.of_below B1.out).trans (Keeps.store (HF1.out.below B1.out).box ht (i := k) _)⟩⟩
set_option maxHeartbeats 1000000 in
theorem watch_no {who : Int} (h : ¬ (0 ≤ who ∧ who < 8)) (b : Nat) (u : ByteArray) (w : World) :
    Calls Tryz.prog 79 #[.pointer (some ⟨b, 0, none⟩), .int .i64 who, .string u] w fun e w' => e = .returned (.tuple #[]) ∧ w = w' := by
  have HC := Lib.hid (client_no h)
  clear h
  go_enter Tryz.func79, Tryz.ntmps79
  go_wp2_with fail
  refine (HC.out w).mono ?_
  rintro e w' ⟨rfl, rfl⟩
  go_wp2_with fail
  go_end0
  exact ⟨rfl, rfl⟩
set_option maxHeartbeats 1000000 in
theorem unwatch_no {who : Int} (h : ¬ (0 ≤ who ∧ who < 8)) (b : Nat) (u : ByteArray) (w : World) :
    Calls Tryz.prog 51 #[.pointer (some ⟨b, 0, none⟩), .int .i64 who, .string u] w fun e w' => e = .returned (.tuple #[]) ∧ w = w' := by
  have HC := Lib.hid (client_no h)
  clear h
  go_enter Tryz.func51, Tryz.ntmps51
  go_wp2_with fail
  refine (HC.out w).mono ?_
  rintro e w' ⟨rfl, rfl⟩
  go_wp2_with fail
  go_end0
  exact ⟨rfl, rfl⟩
set_option maxHeartbeats 1000000 in
theorem drain_no {who : Int} (h : ¬ (0 ≤ who ∧ who < 8)) (b : Nat) (w : World) :
    Calls Tryz.prog 74 #[.pointer (some ⟨b, 0, none⟩), .int .i64 who] w fun e w' => e = .returned (.tuple #[.slice none 0 0, .bool false]) ∧ w = w' := by
  have HC := Lib.hid (client_no h)
  clear h
  go_enter Tryz.func74, Tryz.ntmps74
  go_wp2_with fail
  refine (HC.out w).mono ?_
  rintro e w' ⟨rfl, rfl⟩
  go_wp2_with fail
  go_ret2
  exact ⟨rfl, rfl⟩

/-- the cells of a new feed, j of whose queues are made -/
def cellsN (N j : Nat) : Array Value := #[.pointer none, .pointer none, .pointer none, .pointer none, .pointer none, .pointer none, .pointer none, .pointer none,
  .pointer (if 0 < j then some ⟨N + 1 + 0, 0, none⟩ else none), .pointer (if 1 < j then some ⟨N + 1 + 1, 0, none⟩ else none), .pointer (if 2 < j then some ⟨N + 1 + 2, 0, none⟩ else none), .pointer (if 3 < j then some ⟨N + 1 + 3, 0, none⟩ else none),
  .pointer (if 4 < j then some ⟨N + 1 + 4, 0, none⟩ else none), .pointer (if 5 < j then some ⟨N + 1 + 5, 0, none⟩ else none), .pointer (if 6 < j then some ⟨N + 1 + 6, 0, none⟩ else none), .pointer (if 7 < j then some ⟨N + 1 + 7, 0, none⟩ else none)]
theorem cellsN_at (N : Nat) {j : Nat} (h : j < 8) : (cellsN N j)[8 + j]? = some (.pointer none) := by
  match j, h with
  | 0, _ | 1, _ | 2, _ | 3, _ | 4, _ | 5, _ | 6, _ | 7, _ => rfl
theorem cellsN_next (N : Nat) {j : Nat} (h : j < 8) : (cellsN N j).setIfInBounds (8 + j) (.pointer (some ⟨N + 1 + j, 0, none⟩)) = cellsN N (j + 1) := by
  match j, h with
  | 0, _ | 1, _ | 2, _ | 3, _ | 4, _ | 5, _ | 6, _ | 7, _ => rfl
/-- nobody watches, nothing was told -/
def St.zero : St := ⟨fun _ => [], fun _ => [], fun _ => false⟩
set_option maxRecDepth 100000 in
set_option maxHeartbeats 2000000 in
theorem new (room : Int) (w : World) {base : Nat} (hbase : base ≤ w.heap.size) :
    Calls Tryz.prog 23 #[.int .i64 room] w fun e w' => e = .returned (.pointer (some ⟨w.heap.size, 0, none⟩)) ∧ Fed w' base (fun n => w.heap.size ≤ n ∧ n < w'.heap.size) w.heap.size room.toNat St.zero ∧ Below w.heap.size w w' := by
  go_enter Tryz.func23, Tryz.ntmps23
  go_wp2_with fail
  go_loopw [7] (fun i wr => ∃ j : Nat, j ≤ 8 ∧ i = .int .i64 j ∧ Is wr w.heap.size 121 (cellsN w.heap.size j) ∧ wr.heap.size = w.heap.size + 1 + j ∧ (∀ k, k < j → Is wr (w.heap.size + 1 + k) 159 #[.int .i64 (room.toNat : Int), .slice none 0 0, .bool false]) ∧ Below w.heap.size w wr) (fun i _ => 8 - (intOf i).toNat)
  case atStart => exact ⟨0, Nat.zero_le _, rfl, Is.new w _ _ rfl, by simp, fun k hk => by omega, (Below.refl _ w).alloc (Nat.le_refl _) _⟩
  case round =>
    obtain ⟨j, hj, rfl, hI, hs, hR, hB⟩ := hrel
    have HI := Lib.hid hI
    have HS := Lib.hid hs
    have HR := Lib.hid hR
    have HB := Lib.hid hB
    have hs1 : w.heap.size < wr.heap.size := by omega
    clear hI hs hR hB
    by_cases hlt : j < 8
    · have c0 : wr.cell? ⟨w.heap.size, 8 + j, none⟩ = some (.pointer none) := (HI.out.cell _).trans (by simpa using cellsN_at w.heap.size hlt)
      have f0 := HI.out.frozen (8 + j)
      have hj7 : j ≤ 7 := by omega
      have d1 : decide ((j : Int) < 8) = true := by simp; omega
      go_wp2_with fail
      have HI1 : Hid (Is wr.drew w.heap.size 121 (cellsN w.heap.size j)) := HI.out.drewN 1
      have HB1 : Hid (Below w.heap.size w wr.drew) := Law.below_drewN HB.out 1
      have HS1 : Hid (wr.drew.heap.size = w.heap.size + 1 + j) := HS.out
      have HR1 : Hid (∀ k, k < j → Is wr.drew (w.heap.size + 1 + k) 159 #[.int .i64 (room.toNat : Int), .slice none 0 0, .bool false]) := fun k hk => (HR.out k hk).drewN 1
      have hs2 : w.heap.size < wr.drew.heap.size := hs1
      clear HI HB HS HR c0 f0 hs1
      refine wp_region_held_drew (S := fun _ => True) (by kernel_rfl) trivial (fun hS0 => ?_)
      refine wpAnyH_take (i := 0) (oi := { dst := some 10, op := .move (.tmp 3), type := _, pos := _, after := _, guard := _ }) (v := .pointer (some ⟨w.heap.size, 0, none⟩)) rfl (by kernel_rfl) (by kernel_rfl) (by kernel_rfl) (fun _ _ _ h => h) (Or.inl ⟨by rfl, ?_⟩) hS0 ?_
      · intro w' hSw
        go_simp
      try simp only [Act.put, List.setIfInBounds_toArray, List.set_cons_zero, List.set_cons_succ]
      refine wpAnyH_take (i := 1) (oi := { dst := some 11, op := .move (.tmp 4), type := _, pos := _, after := _, guard := _ }) (v := .int .i64 (j : Int)) rfl (by kernel_rfl) (by kernel_rfl) (by kernel_rfl) (fun _ _ _ h => h) (Or.inl ⟨by rfl, ?_⟩) hS0 ?_
      · intro w' hSw
        go_simp
      try simp only [Act.put, List.setIfInBounds_toArray, List.set_cons_zero, List.set_cons_succ]
      refine wpAnyH_take (i := 2) (oi := { dst := some 12, op := .move (.tmp 0), type := _, pos := _, after := _, guard := _ }) (v := .int .i64 room) rfl (by kernel_rfl) (by kernel_rfl) (by kernel_rfl) (fun _ _ _ h => h) (Or.inl ⟨by rfl, ?_⟩) hS0 ?_
      · intro w' hSw
        go_simp
      try simp only [Act.put, List.setIfInBounds_toArray, List.set_cons_zero, List.set_cons_succ]
      refine wpAnyH_take (i := 4) (oi := { dst := some 14, op := .nilCheck (.tmp 10), type := _, pos := _, after := _, guard := _ }) (v := .pointer (some ⟨w.heap.size, 0, none⟩)) rfl (by kernel_rfl) (by kernel_rfl) (by kernel_rfl) (fun _ _ _ h => h) (Or.inl ⟨by rfl, ?_⟩) hS0 ?_
      · intro w' hSw
        go_simp
      try simp only [Act.put, List.setIfInBounds_toArray, List.set_cons_zero, List.set_cons_succ]
      refine wpAnyH_take (i := 5) (oi := { dst := some 15, op := .fieldAddr 121 (.tmp 14) 1, type := _, pos := _, after := _, guard := _ }) (v := .pointer (some ⟨w.heap.size, 8, none⟩)) rfl (by kernel_rfl) (by kernel_rfl) (by kernel_rfl) (fun _ _ _ h => h) (Or.inl ⟨by rfl, ?_⟩) hS0 ?_
      · intro w' hSw
        go_simp
      try simp only [Act.put, List.setIfInBounds_toArray, List.set_cons_zero, List.set_cons_succ]
      generalize wr.drew = wd at *
      refine wpAnyH_ready (rs := [3]) (by kernel_rfl) (by simp) ?_
      refine AllReadyH.cons (o := { dst := some 13, op := .call { callee := .value (.func 53), args := #[.tmp 12], argTypes := _ }, type := _, pos := _, after := _, guard := _ }) rfl (fun K hK => ?_) AllReadyH.nil
      go_simp
      refine Calls.mono (RingE.new room _) ?_
      rintro e w1 ⟨rfl, hw1⟩
      have HW := Lib.hid hw1
      clear hw1
      go_wp2_with fail
      refine hK.out _ _ trivial (fun hS2 => ?_)
      clear hK K
      try simp only [Act.put, List.setIfInBounds_toArray, List.set_cons_zero, List.set_cons_succ]
      refine wpAnyH_take (i := 6) (oi := { dst := some 16, op := .indexAddr 119 (.tmp 15) (.tmp 11), type := _, pos := _, after := _, guard := _ }) (v := .pointer (some ⟨w.heap.size, 8 + j, none⟩)) rfl (by kernel_rfl) (by kernel_rfl) (by kernel_rfl) (fun _ _ _ h => h) (Or.inl ⟨by rfl, ?_⟩) hS2 ?_
      · intro w' hSw
        go_simp; (try (intro h8; omega))
      try simp only [Act.put, List.setIfInBounds_toArray, List.set_cons_zero, List.set_cons_succ]
      have I1 : Is w1 w.heap.size 121 (cellsN w.heap.size j) := by rw [← HW.out]; exact HI1.out.alloc _
      have c1 : w1.cell? ⟨w.heap.size, 8 + j, none⟩ = some (.pointer none) := (I1.cell _).trans (by simpa using cellsN_at w.heap.size hlt)
      have f1 := I1.frozen (8 + j)
      have l1 := I1.lt
      have HI2 := Lib.hid I1
      clear I1
      refine wpAnyH_ready (rs := [7]) (by kernel_rfl) (by simp) ?_
      refine AllReadyH.cons (o := { dst := none, op := .store 118 (.tmp 16) (.tmp 13), type := _, pos := _, after := _, guard := _ }) rfl (fun K hK => ?_) AllReadyH.nil
      go_simp
      refine hK.out _ _ trivial (fun hS3 => ?_)
      clear hK K
      try simp only [Act.put, List.setIfInBounds_toArray, List.set_cons_zero, List.set_cons_succ]
      refine wpAnyH_done (by kernel_rfl) ?_ _
      go_wp2_with fail
      go_roundw
      case rel =>
        have hw : w1 = wd.alloc _ := HW.out.symm
        have hsz : w1.heap.size = wd.heap.size + 1 := by rw [hw]; simp
        have hs := HS1.out
        refine ⟨j + 1, by omega, by go_num, HI2.out.set _ _ (by rw [hs]; exact cellsN_next w.heap.size hlt), by simp; omega, fun k hk => ?_, (HB1.out.trans ((show Below wd.heap.size wd w1 by rw [hw]; exact (Below.refl _ wd).alloc (Nat.le_refl _) _).mono (by omega))).setCell (Nat.le_refl _) _⟩
        refine Is.far (p := ⟨w.heap.size, 8 + j, none⟩) ?_ (by show w.heap.size + 1 + k ≠ w.heap.size; omega) _
        by_cases e : k = j
        · subst e
          rw [hw]
          exact Is.new wd _ _ (by omega)
        · rw [hw]
          exact (HR1.out k (by omega)).alloc _
      case measure => simp [intOf]; omega
    · have e8 : j = 8 := by omega
      subst e8
      go_wp2_with fail
      go_ret
      refine ⟨rfl, ⟨fun _ => none, fun k => w.heap.size + 1 + k, fun k n => n = w.heap.size + 1 + k, ?_⟩, HB.out⟩
      have hs := HS.out
      refine ⟨HI.out, fun k hk => .nil, fun k hk => Rises.nil, fun k hk => ⟨.slice none 0 0, HR.out k hk, World.ownsRow_nil _ _ _ _, rfl, fun g h => by simp [Value.ownBlock] at h, fun n hn => by omega⟩, fun a b _ _ hne n hn hm => by omega, fun k hk h => by omega, by omega, fun k hk n hn => by omega, fun n hn => ⟨by omega, hn.2⟩⟩
end Feed
end Go.Proofs.YtohdlnefgieenaaGreat
/-
  What the calls of a feed (layer 9) come to: Drain; what is told to one client.
-/
namespace Go.Proofs.YtohdlnefgieenaaGreat
open Go.RowKit Go.Shelf
attribute [local go_sem] Oper.semAt_some
namespace Feed
open Go.Law
/-- the queue of client k has turned -/
theorem FedV.queue {w w' : World} {base b room k : Nat} {S S' Sk' : Nat → Prop} {p : Nat → Option Addr} {g : Nat → Nat} {Sk : Nat → Nat → Prop} {s : St} (h : FedV w base S b room p g Sk s) (hk : k < 8) (ht : Law.Touch w w' (Sk k)) (hK : Keeps 200 w w')
    {zs : List Ev} {lost : Bool} (hr : RingE.At w' base Sk' (g k) room zs lost) (hn : ∀ n, Sk' n → Sk k n ∨ w.heap.size ≤ n) (h1 : ∀ n, S' n → S n ∨ Sk' n) (h2 : ∀ n, S n ∨ Sk' n → S' n) :
    FedV w' base S' b room p g (upd Sk k Sk') { s with que := upd s.que k zs, los := upd s.los k lost } := by
  have old : ∀ i, i < 8 → ∀ n, Sk i n → n < w.heap.size := fun i hi n hn => (h.ok n (h.sub i hi n hn)).2
  refine ⟨ht.is h.box (h.out k hk), fun i hi => ((h.tree i hi).keeps hK).wide ht.size, h.rise, ?_, ?_, ?_, h2 _ (.inl h.inn), ?_, ?_⟩
  · intro i hi
    show RingE.At w' base (upd Sk k Sk' i) (g i) room (upd s.que k zs i) (upd s.los k lost i)
    by_cases e : i = k
    · subst e
      rw [upd_same, upd_same, upd_same]
      exact hr
    · rw [upd_other _ _ e, upd_other _ _ e, upd_other _ _ e]
      exact (h.ring i hi).touch ht (h.apart i k hi hk e)
  · intro i j hi hj hne n h3 h4
    by_cases ei : i = k
    · subst ei
      rw [upd_same] at h3
      rw [upd_other _ _ (Ne.symm hne)] at h4
      rcases hn n h3 with h5 | h5
      · exact h.apart i j hi hj hne n h5 h4
      · have := old j hj n h4; omega
    · rw [upd_other _ _ ei] at h3
      by_cases ej : j = k
      · subst ej
        rw [upd_same] at h4
        rcases hn n h4 with h5 | h5
        · exact h.apart i j hi hj hne n h3 h5
        · have := old i hi n h3; omega
      · rw [upd_other _ _ ej] at h4
        exact h.apart i j hi hj hne n h3 h4
  · intro i hi h3
    by_cases ei : i = k
    · subst ei
      rw [upd_same] at h3
      rcases hn b h3 with h5 | h5
      · exact h.out i hi h5
      · have := h.box.lt; omega
    · rw [upd_other _ _ ei] at h3
      exact h.out i hi h3
  · intro i hi n h3
    by_cases ei : i = k
    · subst ei
      rw [upd_same] at h3
      exact h2 n (.inr h3)
    · rw [upd_other _ _ ei] at h3
      exact h2 n (.inl (h.sub i hi n h3))
  · intro n h3
    rcases h1 n h3 with h4 | h4
    · exact ⟨(h.ok n h4).1, Nat.lt_of_lt_of_le (h.ok n h4).2 ht.size⟩
    · exact Ringz.ok hr n h4
/-- behind a Drain -/
def Drained (w : World) (base : Nat) (S : Nat → Prop) (b room k : Nat) (s : St) (e : Ending) (w' : World) : Prop :=
  ∃ A c, e = .returned (.tuple #[.slice A (s.que k).length c, .bool (s.los k)]) ∧ Seq w' w.heap.size w'.heap.size A (flatE (s.que k)) ∧ Fed w' base S b room { s with que := upd s.que k [], los := upd s.los k false } ∧ Went w S w' S
set_option maxHeartbeats 1000000 in
theorem drain {w : World} {base b room k : Nat} {S : Nat → Prop} {s : St} (h : Fed w base S b room s) (hk : k < 8) (hl : (s.que k).length ≤ 1000) :
    Calls Tryz.prog 74 #[.pointer (some ⟨b, 0, none⟩), .int .i64 (k : Int)] w (Drained w base S b room k s) := by
  obtain ⟨p, g, Sk, h⟩ := h
  have HC := Lib.hid (client_yes hk)
  have HF := Lib.hid h
  have HG := Lib.hid (RingE.drain (h.ring k hk) hl)
  have c0 : w.cell? ⟨b, 8 + k, none⟩ = some (.pointer (some ⟨g k, 0, none⟩)) := (h.box.cell _).trans (by simpa using cellsF_que p g hk)
  have hk1 : k ≤ 7 := by omega
  have lb := h.box.lt
  clear h
  go_enter Tryz.func74, Tryz.ntmps74
  go_wp2_with fail
  refine (HC.out w).mono ?_
  rintro e w' ⟨rfl, rfl⟩
  go_wp2_with fail
  refine HG.out.mono ?_
  rintro e w' ⟨A, c, rfl, hc, hs, hr, ht⟩
  have HS := Lib.hid hs
  have HR := Lib.hid hr
  have HT := Lib.hid ht
  clear hs hr ht
  go_wp2_with fail
  go_ret2
  have hin := Ringz.inn (HF.out.ring k hk)
  obtain ⟨v, hv⟩ := HF.out.ring k hk
  exact ⟨A, c, rfl, HS.out, ⟨p, g, _, HF.out.queue (S' := S) hk (HT.out.mono (fun n e => e ▸ hin)) (Keeps.touch1 HT.out hv.box (by decide)) HR.out (fun n hn => .inl hn) (fun n hn => .inl hn) (fun n hn => hn.elim id (HF.out.sub k hk n))⟩, HT.out.mono (fun n e => e ▸ HF.out.sub k hk _ hin), fun n hn => .inl hn, fun t _ ht _ => Keeps.touch1 HT.out hv.box ht⟩
end Feed
end Go.Proofs.YtohdlnefgieenaaGreat
/-
  What Tell of a feed (layer 9) comes to.
-/
namespace Go.Proofs.YtohdlnefgieenaaGreat
open Go.RowKit Go.Shelf
attribute [local go_sem] Oper.semAt_some
namespace Feed
open Go.Law
/-- an event told to client k -/
def St.put1 (room : Nat) (s : St) (k : Nat) (e : Ev) : St := if s.has k e.us then { s with que := upd s.que k (putL room (s.que k) e), los := upd s.los k (s.los k || decide (room ≤ (s.que k).length)) } else s
/-- an event told to the clients below n -/
def St.upto (room : Nat) (s : St) (e : Ev) : Nat → St
  | 0 => s
  | n + 1 => (s.upto room e n).put1 room n e
/-- changes told -/
def St.tell (room : Nat) (s : St) (l : List Cg) (seq : Int) : St := l.foldl (fun s c => s.upto room (c.ev seq) 8) s
theorem upto_wat (room : Nat) (s : St) (e : Ev) : ∀ n, (s.upto room e n).wat = s.wat
  | 0 => rfl
  | n + 1 => by
    have ih := upto_wat room s e n
    rw [St.upto, St.put1]
    split
    · exact ih
    · exact ih
theorem upto_has (room : Nat) (s : St) (e : Ev) (n k : Nat) (u : ByteArray) : (s.upto room e n).has k u = s.has k u := by unfold St.has; rw [upto_wat]
theorem if_iff {α : Type} {a c : Prop} [Decidable a] [Decidable c] (h : a ↔ c) {x y : α} : (if a then x else y) = if c then x else y := by
  by_cases ha : a
  · rw [if_pos ha, if_pos (h.1 ha)]
  · rw [if_neg ha, if_neg (fun hc => ha (h.2 hc))]
theorem upto_que (room : Nat) (s : St) (e : Ev) (k : Nat) : ∀ n, (s.upto room e n).que k = if k < n ∧ s.has k e.us = true then putL room (s.que k) e else s.que k
  | 0 => by rw [if_neg (by omega)]; rfl
  | n + 1 => by
    have ih := upto_que room s e k n
    rw [St.upto, St.put1, upto_has]
    by_cases hk : k = n
    · subst hk
      rw [if_neg (by omega)] at ih
      by_cases hh : s.has k e.us = true
      · rw [if_pos hh, if_pos ⟨by omega, hh⟩]
        show upd _ k _ k = _
        rw [upd_same, ih]
      · rw [if_neg hh, if_neg (fun h => hh h.2)]
        exact ih
    · have e1 : (k < n + 1 ∧ s.has k e.us = true) ↔ (k < n ∧ s.has k e.us = true) := ⟨fun h => ⟨by omega, h.2⟩, fun h => ⟨by omega, h.2⟩⟩
      rw [if_iff e1, ← ih]
      split
      · show upd _ n _ k = _
        rw [upd_other _ _ hk]
      · rfl
theorem upto_los (room : Nat) (s : St) (e : Ev) (k : Nat) : ∀ n, (s.upto room e n).los k = if k < n ∧ s.has k e.us = true then (s.los k || decide (room ≤ (s.que k).length)) else s.los k
  | 0 => by rw [if_neg (by omega)]; rfl
  | n + 1 => by
    have ih := upto_los room s e k n
    have iq := upto_que room s e k n
    rw [St.upto, St.put1, upto_has]
    by_cases hk : k = n
    · subst hk
      rw [if_neg (by omega)] at ih iq
      by_cases hh : s.has k e.us = true
      · rw [if_pos hh, if_pos ⟨by omega, hh⟩]
        show upd _ k _ k = _
        rw [upd_same, ih, iq]
      · rw [if_neg hh, if_neg (fun h => hh h.2)]
        exact ih
    · have e1 : (k < n + 1 ∧ s.has k e.us = true) ↔ (k < n ∧ s.has k e.us = true) := ⟨fun h => ⟨by omega, h.2⟩, fun h => ⟨by omega, h.2⟩⟩
      rw [if_iff e1, ← ih]
      split
      · show upd _ n _ k = _
        rw [upd_other _ _ hk]
      · rfl
theorem putL_le {α : Type} (room : Nat) (zs : List α) (x : α) : (putL room zs x).length ≤ zs.length + 1 := by unfold putL; split <;> simp
theorem upto_le (room : Nat) (s : St) (e : Ev) (k n : Nat) : ((s.upto room e n).que k).length ≤ (s.que k).length + 1 := by
  rw [upto_que]
  split
  · exact putL_le ..
  · omega
theorem tell_le (room : Nat) (seq : Int) (k : Nat) : ∀ (l : List Cg) (s : St), ((s.tell room l seq).que k).length ≤ (s.que k).length + l.length
  | [], s => by simp [St.tell]
  | c :: r, s => by
    have h1 := tell_le room seq k r (s.upto room (c.ev seq) 8)
    have h2 := upto_le room s (c.ev seq) k 8
    show ((St.tell room (s.upto room (c.ev seq) 8) r seq).que k).length ≤ _
    simp only [List.length_cons]
    omega
/-- an event put into a client's queue -/
theorem put1 {w : World} {base b room k : Nat} {S : Nat → Prop} {p : Nat → Option Addr} {g : Nat → Nat} {Sk : Nat → Nat → Prop} {s : St} (h : FedV w base S b room p g Sk s) (hb : base ≤ w.heap.size) (hk : k < 8) (e : Ev) (hl : (s.que k).length ≤ 1000) :
    Calls Tryz.prog 108 #[.pointer (some ⟨g k, 0, none⟩), e.val] w fun en w' => (∃ r, en = .returned (.bool r)) ∧ ∃ S' Sk', FedV w' base S' b room p g Sk' { s with que := upd s.que k (putL room (s.que k) e), los := upd s.los k (s.los k || decide (room ≤ (s.que k).length)) } ∧ Went w S w' S' ∧ ∀ t, t ≠ 159 → t ≠ 63 → Keeps t w w' := by
  refine (RingE.put e (s.que k) (s.los k) w base (Sk k) (g k) room (h.ring k hk) hb hl).mono ?_
  rintro en w' ⟨rfl, Sk', hr, ht, hn, hK⟩
  refine ⟨⟨_, rfl⟩, fun n => S n ∨ Sk' n, _, h.queue hk ht (hK _ (by decide) (by decide)) hr hn (fun _ h => h) (fun _ h => h), ⟨ht.mono (h.sub k hk), fun n hn' => ?_, fun t _ h2 h3 => hK t h2 h3⟩, hK⟩
  rcases hn' with h1 | h1
  · exact .inl h1
  · exact (hn n h1).imp (h.sub k hk n) id
set_option maxRecDepth 100000 in
/-- a queue out of the list of all -/
theorem queue_at (g : Nat → Nat) (w : World) {k : Nat} (h : k < 8) : (Instr.index 119 (.agg #[.pointer (some ⟨g 0, 0, none⟩), .pointer (some ⟨g 1, 0, none⟩), .pointer (some ⟨g 2, 0, none⟩), .pointer (some ⟨g 3, 0, none⟩), .pointer (some ⟨g 4, 0, none⟩), .pointer (some ⟨g 5, 0, none⟩), .pointer (some ⟨g 6, 0, none⟩), .pointer (some ⟨g 7, 0, none⟩)]) (.int .i64 (k : Int))).run Tryz.prog w = .ok (.pointer (some ⟨g k, 0, none⟩)) w := by
  have h8 : k = 0 ∨ k = 1 ∨ k = 2 ∨ k = 3 ∨ k = 4 ∨ k = 5 ∨ k = 6 ∨ k = 7 := by omega
  rcases h8 with rfl | rfl | rfl | rfl | rfl | rfl | rfl | rfl <;> rfl
/-- behind a Tell -/
def Told (w : World) (base : Nat) (S : Nat → Prop) (b room : Nat) (s : St) (e : Ending) (w' : World) : Prop :=
  e = .returned (.tuple #[]) ∧ ∃ S', Fed w' base S' b room s ∧ Went w S w' S' ∧ ∀ t, t ≠ 159 → t ≠ 63 → Keeps t w w'
set_option maxRecDepth 100000 in
set_option maxHeartbeats 4000000 in
theorem tell {w : World} {base b room c : Nat} {S : Nat → Prop} {s : St} {A : Option Addr} (h : Fed w base S b room s) (hb : base ≤ w.heap.size) (l : List Cg) (seq : Int) (hA : Lain 185 w A (flatG l)) (hl : ∀ k, k < 8 → (s.que k).length + l.length ≤ 1000) :
    Calls Tryz.prog 86 #[.pointer (some ⟨b, 0, none⟩), .slice A l.length c, .int .u64 seq] w (Told w base S b room (s.tell room l seq)) := by
  have HF := Lib.hid h
  have HA := Lib.hid hA
  have HL := Lib.hid hl
  have hl1 : l.length ≤ 1000 := by have := hl 0 (by omega); omega
  clear h hA hl
  go_enter Tryz.func86, Tryz.ntmps86
  go_wp2_with fail
  go_loopw [13] (fun i wr => ∃ j : Nat, j ≤ l.length ∧ i = .int .i64 j ∧ ∃ S', Fed wr base S' b room (s.tell room (l.take j) seq) ∧ Went w S wr S' ∧ ∀ t, t ≠ 159 → t ≠ 63 → Keeps t w wr) (fun i _ => l.length - (intOf i).toNat)
  case atStart => exact ⟨0, Nat.zero_le _, rfl, S, HF.out, Went.refl _ _, fun t _ _ => Keeps.refl t w⟩
  case round =>
    obtain ⟨j, hj, rfl, S', hF, hW, hK⟩ := hrel
    by_cases hlt : j < l.length
    · have HT : Hid (s.tell room (l.take (j + 1)) seq = (s.tell room (l.take j) seq).upto room (l[j].ev seq) 8) := by show _ = _; unfold St.tell; rw [List.take_succ_eq_append_getElem hlt, List.foldl_append]; rfl
      have HQ : Hid (∀ k, k < 8 → ((s.tell room (l.take j) seq).que k).length ≤ 999) := fun k hk => by
        have h1 := tell_le room seq k (l.take j) s
        have h2 := HL.out k hk
        simp at h1
        omega
      obtain ⟨gb, off, e, _, hgb, c0, c1, c2, c3, c4, c5, c6⟩ := (HA.out.keeps (hK _ (by decide) (by decide))).seq.cg hlt
      subst e
      generalize l[j] = q at *
      generalize s.tell room (l.take j) seq = s1 at *
      have hbw : base ≤ wr.heap.size := Nat.le_trans hb hW.touch.size
      obtain ⟨p, g, Sk, hV⟩ := hF
      have lb := hV.box.lt
      have x0 : wr.cell? ⟨b, 8, none⟩ = some (.pointer (some ⟨g 0, 0, none⟩)) := hV.box.cell' rfl
      have x1 : wr.cell? ⟨b, 9, none⟩ = some (.pointer (some ⟨g 1, 0, none⟩)) := hV.box.cell' rfl
      have x2 : wr.cell? ⟨b, 10, none⟩ = some (.pointer (some ⟨g 2, 0, none⟩)) := hV.box.cell' rfl
      have x3 : wr.cell? ⟨b, 11, none⟩ = some (.pointer (some ⟨g 3, 0, none⟩)) := hV.box.cell' rfl
      have x4 : wr.cell? ⟨b, 12, none⟩ = some (.pointer (some ⟨g 4, 0, none⟩)) := hV.box.cell' rfl
      have x5 : wr.cell? ⟨b, 13, none⟩ = some (.pointer (some ⟨g 5, 0, none⟩)) := hV.box.cell' rfl
      have x6 : wr.cell? ⟨b, 14, none⟩ = some (.pointer (some ⟨g 6, 0, none⟩)) := hV.box.cell' rfl
      have x7 : wr.cell? ⟨b, 15, none⟩ = some (.pointer (some ⟨g 7, 0, none⟩)) := hV.box.cell' rfl
      have bb := ((Below.refl wr.heap.size wr).alloc (Nat.le_refl _) (.cells q.box 185)).alloc (by simp) (.cells (q.ev seq).box 63)
      have HV := Lib.hid (hV.below bb)
      have HW1 := Lib.hid (hW.trans (Went.of_below (S := S') bb))
      have HK1 : Hid (∀ t, t ≠ 159 → t ≠ 63 → Keeps t w _) := fun t h1 h2 => (hK t h1 h2).trans (Keeps.of_below bb)
      have N7 : Hid (¬ S' wr.heap.size) := fun h => by have := (hV.ok _ h).2; omega
      have N8 : Hid (¬ S' (wr.heap.size + 1)) := fun h => by have := (hV.ok _ h).2; omega
      have I7 : Hid (Is ((wr.alloc (.cells q.box 185)).alloc (.cells (q.ev seq).box 63)) wr.heap.size 185 q.box) := (Is.new wr _ _ rfl).alloc _
      have I8 : Hid (Is ((wr.alloc (.cells q.box 185)).alloc (.cells (q.ev seq).box 63)) (wr.heap.size + 1) 63 (q.ev seq).box) := Is.new _ _ _ (by simp)
      have hs1 : wr.heap.size + 1 < ((wr.alloc (.cells q.box 185)).alloc (.cells (q.ev seq).box 63)).heap.size := by simp
      clear hV hW hK bb
      go_wp2_with fail
      generalize (wr.alloc (.cells q.box 185)).alloc (.cells (q.ev seq).box 63) = W1 at *
      clear c0 c1 c2 c3 c4 c5 c6 x0 x1 x2 x3 x4 x5 x6 x7
      go_loopw [29] (fun i wx => ∃ k : Nat, k ≤ 8 ∧ i = .int .i64 k ∧ ∃ S2 Sk2, FedV wx base S2 b room p g Sk2 (s1.upto room (q.ev seq) k) ∧ Went W1 S' wx S2 ∧ ∀ t, t ≠ 159 → t ≠ 63 → Keeps t W1 wx) (fun i _ => 8 - (intOf i).toNat)
      case atStart => exact ⟨0, Nat.zero_le _, rfl, S', Sk, HV.out, Went.refl _ _, fun t _ _ => Keeps.refl t _⟩
      case round =>
        obtain ⟨k, hk8, rfl, S2, Sk2, hV2, hW2, hK2⟩ := hrel
        by_cases hk : k < 8
        · have d1 : decide ((k : Int) < 8) = true := by simp; omega
          have J7 := hW2.is I7.out N7.out
          have J8 := hW2.is I8.out N8.out
          have y0 : World.cell? _ ⟨_, 0, none⟩ = some (.string q.us) := J7.cell' rfl
          have lz := hW2.touch.size
          have HG := Lib.hid (watching ⟨_, _, _, hV2⟩ hk q.us)
          have HV2 := Lib.hid hV2
          have HW2 := Lib.hid hW2
          have HK2 := Lib.hid hK2
          have HJ8 := Lib.hid J8
          have HE : Hid (s1.upto room (q.ev seq) (k + 1) = (s1.upto room (q.ev seq) k).put1 room k (q.ev seq)) := rfl
          have hql : ((s1.upto room (q.ev seq) k).que k).length ≤ 1000 := by have h1 := upto_le room s1 (q.ev seq) k k; have h2 := HQ.out k hk; omega
          have HQL := Lib.hid hql
          have hix := fun wx => queue_at g wx hk
          clear hV2 hW2 hK2 J7 J8 hql
          go_wp2_with fail
          refine HG.out.mono ?_
          rintro e w2 ⟨rfl, hb2⟩
          have HV3 := Lib.hid (HV2.out.below hb2)
          have HW3 := Lib.hid (HW2.out.trans (Went.of_below (S := S2) hb2))
          have HK3 : Hid (∀ t, t ≠ 159 → t ≠ 63 → Keeps t W1 w2) := fun t h1 h2 => (HK2.out t h1 h2).trans (Keeps.of_below hb2)
          have z2 : base ≤ w2.heap.size := by have := hb2.size; omega
          have lz2 : W1.heap.size ≤ w2.heap.size := by have := hb2.size; omega
          have J8 := HJ8.out.below hb2 HJ8.out.lt
          obtain ⟨e0, e1, e2, e3, e4, e5, e6, e7⟩ := RingE.Evs.of J8
          simp only [Nat.zero_add] at e0 e1 e2 e3 e4 e5 e6 e7
          clear hb2 HV2 HW2 HK2 HJ8 J8 y0 hix HG
          cases hh : (s1.upto room (q.ev seq) k).has k q.us with
          | true =>
            have HS : Hid ((s1.upto room (q.ev seq) k).put1 room k (q.ev seq) = { (s1.upto room (q.ev seq) k) with que := upd (s1.upto room (q.ev seq) k).que k (putL room ((s1.upto room (q.ev seq) k).que k) (q.ev seq)), los := upd (s1.upto room (q.ev seq) k).los k ((s1.upto room (q.ev seq) k).los k || decide (room ≤ ((s1.upto room (q.ev seq) k).que k).length)) }) := by show _ = _; unfold St.put1; rw [if_pos hh]
            go_wp2_with fail
            refine (put1 HV3.out z2 hk (q.ev seq) HQL.out).mono ?_
            rintro e w3 ⟨⟨r, rfl⟩, S3, Sk3, hV4, hW4, hK4⟩
            have HV4 := Lib.hid hV4
            have HW4 := Lib.hid (HW3.out.trans hW4)
            have HK4 : Hid (∀ t, t ≠ 159 → t ≠ 63 → Keeps t W1 w3) := fun t h1 h2 => (HK3.out t h1 h2).trans (hK4 t h1 h2)
            clear hV4 hW4 hK4 e0 e1 e2 e3 e4 e5 e6 e7
            go_wp2_with fail
            go_roundw
            case rel => exact ⟨k + 1, by omega, by go_num, S3, Sk3, by rw [HE.out, HS.out]; exact HV4.out, HW4.out, HK4.out⟩
            case measure => simp [intOf]; omega
          | false =>
            have HS : Hid ((s1.upto room (q.ev seq) k).put1 room k (q.ev seq) = s1.upto room (q.ev seq) k) := by show _ = _; unfold St.put1; rw [if_neg (by rw [hh]; simp)]
            go_wp2_with fail
            go_roundw
            case rel => exact ⟨k + 1, by omega, by go_num, S2, Sk2, by rw [HE.out, HS.out]; exact HV3.out, HW3.out, HK3.out⟩
            case measure => simp [intOf]; omega
        · have e8 : k = 8 := by omega
          subst e8
          have HV2 := Lib.hid hV2
          have HW2 := Lib.hid hW2
          have HK2 := Lib.hid hK2
          clear hV2 hW2 hK2
          go_wp2_with fail
          go_roundw
          case rel => exact ⟨j + 1, by omega, by go_num, S2, by rw [HT.out]; exact ⟨_, _, _, HV2.out⟩, HW1.out.trans HW2.out, fun t h1 h2 => (HK1.out t h1 h2).trans (HK2.out t h1 h2)⟩
          case measure => simp [intOf]; omega
    · have e1 : l.take j = l := List.take_of_length_le (by omega)
      rw [e1] at hF
      have HF1 := Lib.hid hF
      have HW1 := Lib.hid hW
      have HK1 := Lib.hid hK
      clear hF hW hK
      go_wp2_with fail
      go_end0
      exact ⟨rfl, S', HF1.out, HW1.out, HK1.out⟩
end Feed
end Go.Proofs.YtohdlnefgieenaaGreat
