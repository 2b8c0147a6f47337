/-
  What Merge (layer 9) comes to.
-/
import Derived.Test.YtdkjcheannehhaaGreatFeed06
import Derived.Test.YtdkjcheannehhaaGreatOpenGrid
import Derived.Deep.RegionHeld3
namespace Go.Proofs.YtdkjcheannehhaaGreat
open Go.RowKit Go.Shelf
attribute [local go_sem] Oper.semAt_some
namespace Feed
open Go.Law
/-- rows of events lie at A -/
structure Rows (w : World) (A : Option Addr) (l : List (RowV Ev)) : Prop where
  seq : Seq w 0 w.heap.size A (l.flatMap cellsR)
  row : ∀ q ∈ l, Seq w 0 w.heap.size q.A (flatE q.xs)
  cap : ∀ q ∈ l, q.xs.length ≤ q.c
theorem Rows.below {w w' : World} {A : Option Addr} {l : List (RowV Ev)} (h : Rows w A l) (hb : Below w.heap.size w w') : Rows w' A l :=
  ⟨(h.seq.below hb).more hb.size, fun q hq => ((h.row q hq).below hb).more hb.size, h.cap⟩
theorem rows_len (l : List (RowV Ev)) : (l.flatMap cellsR).length = l.length := by rw [rows_length (cells := cellsR) (sz := 1) (fun _ => rfl)]; omega
theorem rows_take (l : List (RowV Ev)) (i : Nat) : (l.take i).flatMap cellsR = (l.flatMap cellsR).take i := by
  induction l generalizing i with
  | nil => simp
  | cons q r ih =>
    cases i with
    | zero => simp
    | succ i => simp [cellsR, ih]
theorem rows_drop (l : List (RowV Ev)) (i : Nat) : (l.drop i).flatMap cellsR = (l.flatMap cellsR).drop i := by
  induction l generalizing i with
  | nil => simp
  | cons q r ih =>
    cases i with
    | zero => simp
    | succ i => simp [cellsR, ih]
theorem Rows.at {w : World} {A : Option Addr} {l : List (RowV Ev)} (h : Rows w A l) {i : Nat} (hi : i < l.length) : ∃ b off, A = some ⟨b, off, none⟩ ∧ b < w.heap.size ∧ w.cell? ⟨b, off + i, none⟩ = some (.slice l[i].A l[i].xs.length l[i].c) := by
  obtain ⟨b, off, hA, _, h2, hc⟩ := Seq.row (cells := cellsR) (fun _ => rfl) (by decide : 0 < 1) h.seq hi
  exact ⟨b, off, hA, h2, by simpa using hc 0 _ rfl⟩
theorem Rows.take {w : World} {A : Option Addr} {l : List (RowV Ev)} (h : Rows w A l) (i : Nat) : Rows w A (l.take i) :=
  ⟨fun hne => by
    rw [rows_take] at hne ⊢
    obtain ⟨b, o, e, h1, h2, h3⟩ := h.seq (by intro h0; rw [h0] at hne; simp at hne)
    exact ⟨b, o, e, h1, h2, fun j u hu => h3 j u (by rw [List.getElem?_take] at hu; split at hu; exact hu; cases hu)⟩, fun q hq => h.row q (List.mem_of_mem_take hq), fun q hq => h.cap q (List.mem_of_mem_take hq)⟩
theorem Rows.drop {w : World} {b o : Nat} {l : List (RowV Ev)} (h : Rows w (some ⟨b, o, none⟩) l) (i : Nat) : Rows w (some ⟨b, o + i, none⟩) (l.drop i) :=
  ⟨fun hne => by
    rw [rows_drop] at hne ⊢
    obtain ⟨b', o', e, h1, h2, h3⟩ := h.seq (by intro h0; rw [h0] at hne; simp at hne)
    obtain ⟨rfl, rfl, _⟩ := by simpa using e
    exact ⟨b, o + i, rfl, h1, h2, fun j u hu => by
      have := h3 (i + j) u (by rw [List.getElem?_drop] at hu; exact hu)
      rwa [← Nat.add_assoc] at this⟩, fun q hq => h.row q (List.mem_of_mem_drop hq), fun q hq => h.cap q (List.mem_of_mem_drop hq)⟩
def evs (l : List (RowV Ev)) : List (List Ev) := l.map (·.xs)
theorem evs_take (l : List (RowV Ev)) (i : Nat) : evs (l.take i) = (evs l).take i := List.map_take ..
theorem evs_drop (l : List (RowV Ev)) (i : Nat) : evs (l.drop i) = (evs l).drop i := List.map_drop ..
theorem total_take (l : List (List Ev)) (i : Nat) : total (l.take i) + total (l.drop i) = total l := by rw [← total_app, List.take_append_drop]
theorem all_len (l : List (List Ev)) : (all l).length = total l := all_length _ l (Nat.le_refl _)
set_option maxRecDepth 100000 in
set_option maxHeartbeats 4000000 in
theorem mergeAll : ∀ (n : Nat) (l : List (RowV Ev)) (A : Option Addr) (c : Nat) (w : World), l.length ≤ n → Rows w A l → l.length ≤ c → total (evs l) ≤ 500 → l.length ≤ 1000 →
    Calls Tryz.prog 91 #[.slice A l.length c] w (Lists w (all (evs l))) := by
  intro n
  induction n with
  | zero =>
    intro l A c w hn _ _ _ _
    obtain rfl := List.eq_nil_of_length_eq_zero (by omega : l.length = 0)
    go_enter Tryz.func91, Tryz.ntmps91
    go_wp2_with fail
    go_ret
    exact ⟨none, 0, rfl, Nat.le_refl _, fun h => absurd rfl h, Below.refl _ _⟩
  | succ n ih =>
    intro l A c w hn hR hc ht hl
    rcases l with _ | ⟨q, _ | ⟨q2, r⟩⟩
    · exact ih [] A c w (Nat.zero_le _) hR hc ht hl
    · have HR := Lib.hid hR
      obtain ⟨b, o, rfl, hb, c0⟩ := hR.at (i := 0) (by simp)
      simp only [List.getElem_cons_zero, Nat.add_zero] at c0
      have HE : Hid (all (evs [q]) = q.xs) := all_one q.xs
      have hq : q.xs.length ≤ 500 := by simpa [evs, total] using ht
      clear ih hR ht
      go_enter Tryz.func91, Tryz.ntmps91
      go_wp2_with fail
      refine (clone q.xs q.A q.c w (HR.out.row q (by simp)) (by omega)).mono ?_
      rintro e w1 ⟨A1, c1, rfl, hc1, hs, hb1⟩
      have HS := Lib.hid hs
      have HB := Lib.hid hb1
      clear hs hb1
      go_wp2_with fail
      go_ret
      exact ⟨A1, c1, by rw [HE.out]; rfl, by rw [HE.out]; exact hc1, by rw [HE.out]; exact HS.out, HB.out⟩
    · obtain ⟨b, o, rfl, hb, hcc⟩ := hR.at (i := 0) (by simp)
      clear hcc
      obtain ⟨h, hh⟩ : ∃ h : Nat, (q :: q2 :: r).length / 2 = h := ⟨_, rfl⟩
      have hlen : 2 ≤ (q :: q2 :: r).length := by simp
      generalize q :: q2 :: r = l at *
      have h1 : 1 ≤ h := by omega
      have h2 : h < l.length := by omega
      have HH : Hid ((l.length : Int) / 2 = (h : Int)) := by show _ = _; omega
      have HE := Lib.hid (all_half (evs l) h)
      have htt := total_take (evs l) h
      rw [← evs_take, ← evs_drop] at htt
      have HI1 : Hid (∀ w', Below w.heap.size w w' → Calls Tryz.prog 91 #[.slice (some ⟨b, o, none⟩) (l.take h).length c] w' (Lists w' (all (evs (l.take h))))) := fun w' hb' => ih (l.take h) _ c w' (by simp; omega) ((hR.below hb').take h) (by simp; omega) (by omega) (by simp; omega)
      have HI2 : Hid (∀ w', Below w.heap.size w w' → Calls Tryz.prog 91 #[.slice (some ⟨b, o + h, none⟩) (l.drop h).length (c - h)] w' (Lists w' (all (evs (l.drop h))))) := fun w' hb' => ih (l.drop h) _ (c - h) w' (by simp; omega) ((hR.below hb').drop h) (by simp; omega) (by omega) (by simp; omega)
      have e1 : (l.take h).length = h := by simp; omega
      have e2 : (l.drop h).length = l.length - h := by simp
      rw [e1] at HI1
      rw [e2] at HI2
      have hL1 := Lib.hid (all_len (evs (l.take h)))
      have hL2 := Lib.hid (all_len (evs (l.drop h)))
      rw [evs_take] at HI1 hL1 htt
      rw [evs_drop] at HI2 hL2 htt
      clear ih hR hh
      generalize (evs l).take h = L1 at *
      generalize (evs l).drop h = L2 at *
      generalize evs l = L at *
      have hl500 : total L1 + total L2 ≤ 500 := by omega
      clear htt ht hn
      go_enter Tryz.func91, Tryz.ntmps91
      have d0 : ((l.length : Int) == 0) = false := by rw [beq_eq_false_iff_ne]; omega
      have d1 : ((l.length : Int) == 1) = false := by rw [beq_eq_false_iff_ne]; omega
      go_wp2_with fail
      rw [HH.out]
      have hch : ¬ c = h := by omega
      have hi1 : (h : Int) ≤ (c : Int) := by omega
      have hi2 : (h : Int) ≤ (l.length : Int) := by omega
      have hi3 : h ≤ c := by omega
      have hi4 : h ≤ l.length := by omega
      have hbd : Below w.heap.size w w.drew := Law.below_drewN (Below.refl _ w) 1
      have HBD := Lib.hid hbd
      have szd : w.heap.size ≤ w.drew.heap.size := Nat.le_refl _
      clear hbd HH
      refine wp_region_held_drew (S := fun _ => True) (by kernel_rfl) trivial (fun hS0 => ?_)
      refine wpAnyH_take (i := 0) (oi := { dst := some 17, op := .move (.tmp 0), type := _, pos := _, after := _, guard := _ }) (v := .slice (some ⟨b, o, none⟩) l.length c) rfl (by kernel_rfl) (by kernel_rfl) (by kernel_rfl) (fun _ _ _ h => h) (Or.inl ⟨by rfl, ?_⟩) hS0 ?_
      · intro w' hSw
        go_simp
      try simp only [Act.put, List.setIfInBounds_toArray, List.set_cons_zero, List.set_cons_succ]
      refine wpAnyH_take (i := 1) (oi := { dst := some 18, op := .move (.tmp 3), type := _, pos := _, after := _, guard := _ }) (v := .int .i64 (h : Int)) rfl (by kernel_rfl) (by kernel_rfl) (by kernel_rfl) (fun _ _ _ h => h) (Or.inl ⟨by rfl, ?_⟩) hS0 ?_
      · intro w' hSw
        go_simp
      try simp only [Act.put, List.setIfInBounds_toArray, List.set_cons_zero, List.set_cons_succ]
      refine wpAnyH_take (i := 2) (oi := { dst := some 19, op := .slice 94 (.tmp 17) none (some (.tmp 18)) none, type := _, pos := _, after := _, guard := _ }) (v := .slice (some ⟨b, o, none⟩) h c) rfl (by kernel_rfl) (by kernel_rfl) (by kernel_rfl) (fun _ _ _ h => h) (Or.inl ⟨by rfl, ?_⟩) hS0 ?_
      · intro w' hSw
        go_simp; (try (first | omega | (simp; omega)))
      try simp only [Act.put, List.setIfInBounds_toArray, List.set_cons_zero, List.set_cons_succ]
      refine wpAnyH_take (i := 4) (oi := { dst := some 21, op := .move (.tmp 0), type := _, pos := _, after := _, guard := _ }) (v := .slice (some ⟨b, o, none⟩) l.length c) rfl (by kernel_rfl) (by kernel_rfl) (by kernel_rfl) (fun _ _ _ h => h) (Or.inl ⟨by rfl, ?_⟩) hS0 ?_
      · intro w' hSw
        go_simp
      try simp only [Act.put, List.setIfInBounds_toArray, List.set_cons_zero, List.set_cons_succ]
      refine wpAnyH_take (i := 5) (oi := { dst := some 22, op := .move (.tmp 3), type := _, pos := _, after := _, guard := _ }) (v := .int .i64 (h : Int)) rfl (by kernel_rfl) (by kernel_rfl) (by kernel_rfl) (fun _ _ _ h => h) (Or.inl ⟨by rfl, ?_⟩) hS0 ?_
      · intro w' hSw
        go_simp
      try simp only [Act.put, List.setIfInBounds_toArray, List.set_cons_zero, List.set_cons_succ]
      refine wpAnyH_take (i := 6) (oi := { dst := some 23, op := .slice 94 (.tmp 21) (some (.tmp 22)) none none, type := _, pos := _, after := _, guard := _ }) (v := .slice (some ⟨b, o + h, none⟩) (l.length - h) (c - h)) rfl (by kernel_rfl) (by kernel_rfl) (by kernel_rfl) (fun _ _ _ h => h) (Or.inl ⟨by rfl, ?_⟩) hS0 ?_
      · intro w' hSw
        go_simp; (try (first | omega | (simp; omega)))
      try simp only [Act.put, List.setIfInBounds_toArray, List.set_cons_zero, List.set_cons_succ]
      generalize w.drew = wd at *
      refine wpAnyH_ready (rs := [3]) (by kernel_rfl) (by simp) ?_
      refine AllReadyH.cons (o := { dst := some 20, op := .call { callee := .value (.func 91), args := #[.tmp 19], argTypes := _ }, type := _, pos := _, after := _, guard := _ }) rfl (fun K hK => ?_) AllReadyH.nil
      go_simp
      refine Calls.mono (HI1.out _ HBD.out) ?_
      rintro e w1 ⟨A1, c1, rfl, hc1, hs, hb1⟩
      have S1 := Lib.hid hs
      have B1 := Lib.hid (HBD.out.trans (hb1.mono szd))
      have sz1 := hb1.size
      clear hs hb1
      go_wp2_with fail
      refine hK.out _ _ trivial (fun hS1 => ?_)
      clear hK K
      try simp only [Act.put, List.setIfInBounds_toArray, List.set_cons_zero, List.set_cons_succ]
      refine wpAnyH_ready (rs := [7]) (by kernel_rfl) (by simp) ?_
      refine AllReadyH.cons (o := { dst := some 24, op := .call { callee := .value (.func 91), args := #[.tmp 23], argTypes := _ }, type := _, pos := _, after := _, guard := _ }) rfl (fun K hK => ?_) AllReadyH.nil
      go_simp
      refine Calls.mono (HI2.out _ B1.out) ?_
      rintro e w2 ⟨A2, c2, rfl, hc2, hs, hb2⟩
      have S2 := Lib.hid ((hs.from_ (Nat.zero_le _)))
      have S1b := Lib.hid (((S1.out.below hb2).more hb2.size).from_ (Nat.zero_le _))
      have B2 := Lib.hid (B1.out.trans (hb2.mono (Nat.le_trans szd sz1)))
      have sz2 := hb2.size
      clear hs hb2
      go_wp2_with fail
      refine hK.out _ _ trivial (fun hS2 => ?_)
      clear hK K
      try simp only [Act.put, List.setIfInBounds_toArray, List.set_cons_zero, List.set_cons_succ]
      refine wpAnyH_ready (rs := [8]) (by kernel_rfl) (by simp) ?_
      refine AllReadyH.cons (o := { dst := some 25, op := .call { callee := .value (.func 113), args := #[.tmp 20, .tmp 24], argTypes := _ }, type := _, pos := _, after := _, guard := _ }) rfl (fun K hK => ?_) AllReadyH.nil
      go_simp
      refine Calls.mono (merge (all L1) (all L2) A1 A2 c1 c2 _ S1b.out S2.out hc1 hc2 (by rw [hL1.out, hL2.out]; exact hl500)) ?_
      rintro e w3 ⟨A3, c3, rfl, hc3, hs, hb3⟩
      have S3 := Lib.hid (hs.from_ (Nat.le_trans szd (Nat.le_trans sz1 sz2)))
      have B3 := Lib.hid (B2.out.trans (hb3.mono (Nat.le_trans szd (Nat.le_trans sz1 sz2))))
      clear hs hb3
      go_wp2_with fail
      refine hK.out _ _ trivial (fun hS3 => ?_)
      clear hK K
      try simp only [Act.put, List.setIfInBounds_toArray, List.set_cons_zero, List.set_cons_succ]
      refine wpAnyH_take (i := 9) (oi := { dst := some 2, op := .assign (.tmp 25), type := _, pos := _, after := _, guard := _ }) (v := .slice A3 (mrg (all L1) (all L2)).length c3) rfl (by kernel_rfl) (by kernel_rfl) (by kernel_rfl) (fun _ _ _ h => h) (Or.inl ⟨by rfl, ?_⟩) hS3 ?_
      · intro w' hSw
        go_simp
      try simp only [Act.put, List.setIfInBounds_toArray, List.set_cons_zero, List.set_cons_succ]
      refine wpAnyH_done (by kernel_rfl) ?_ _
      go_wp2_with fail
      go_ret
      exact ⟨A3, c3, by rw [HE.out]; rfl, by rw [HE.out]; exact hc3, by rw [HE.out]; exact S3.out, B3.out⟩
end Feed
end Go.Proofs.YtdkjcheannehhaaGreat
