/-
  What the reference's (layer 9) Tell of one change comes to.
-/
import Derived.Test.YtdkjcheannehhaaFeed14
namespace Go.Proofs.Ytdkjcheannehhaa
open Go.RowKit Go.Shelf
attribute [local go_sem] Oper.semAt_some
namespace Feed
open Go.Law
theorem Cgs.of {w : World} {g : Nat} {t : TypeId} {x : Cg} (h : Is w g t x.box) : CgAt w g 0 x := ⟨h.cell' rfl, h.cell' rfl, h.cell' rfl, h.cell' rfl, h.cell' rfl, h.cell' rfl, h.cell' rfl⟩
theorem RWent.is {w w' : World} {R R' : Nat → Prop} {r g : Nat} {t t' : TypeId} {cs cr : Array Value} (h : RWent w R r w' R') (hi : Is w g t cs) (hr : Is w r t' cr) (ht : t ≠ t') : Is w' g t cs := h.touch.is hi (hi.type_ne hr ht)
theorem seq_box {w : World} {g : Nat} {t : TypeId} {x : Ev} (h : Is w g t x.box) : Seq w g (g + 1) (some ⟨g, 0, none⟩) (cellsE x) := fun _ => ⟨g, 0, rfl, Nat.le_refl _, Nat.lt_succ_self _, fun i u hu => by rw [Nat.zero_add, h.cell]; simpa [cellsE] using hu⟩
theorem own_emptyR (w : World) {base : Nat} (e : TypeId) (hb : base ≤ w.heap.size) : (w.alloc (.cells #[] e)).ownsRow base e 8 (.slice (some ⟨w.heap.size, 0, none⟩) 0 0) 0 [] :=
  ⟨rfl, .inr ⟨w.heap.size, 0, #[], rfl, hb, heap_alloc_new w _, Nat.le_refl _, Nat.zero_le _, rfl, rfl⟩⟩
/-- one more went into a queue -/
theorem room_left {w w' : World} {R : Nat → Prop} {r k : Nat} {room : Int} {ps : List Pa} {qs : Nat → List Ev} {ls : Nat → Bool} {vp : Value} {vq : Nat → Value} (h : RefV w R r room ps qs ls vp vq) (hk : k < 8) (hb : Below w.heap.size w w') {A : Option Addr} {c n : Nat} {zs : List Ev} (ho : w'.ownsRow w.heap.size 54 8 (.slice A n c) n (flatE zs)) (hn : n = zs.length := by simp) :
    ∃ R', RefAt (w'.setCell ⟨r, 2 + k, none⟩ (.slice A n c)) R' r room ps (upd qs k zs) ls ∧ RWent w R r (w'.setCell ⟨r, 2 + k, none⟩ (.slice A n c)) R' := by
  subst hn
  have h1 := h.below hb
  have hlt := h.box.lt
  have hout : ¬ (R r ∨ w.heap.size ≤ r ∧ r < w'.heap.size) := fun h' => h'.elim h.out (fun h' => by omega)
  refine ⟨fun n => R n ∨ w.heap.size ≤ n ∧ n < w'.heap.size, ⟨_, _, h1.queue hk (LieR.of_seq (Seq.own ho) (fun n h1 h2 => .inr ⟨h1, h2⟩)) (fun n hn => .inl hn) hout (fun n hn => hn.elim (h1.ok n) And.right)⟩, ⟨(Law.Touch.of_below hb _).trans (Law.Touch.store (T := fun k => k = r) w' ⟨r, 2 + k, none⟩ _ rfl) (fun _ hk => .inl hk), fun n hn => hn.imp id And.left⟩⟩
/-- on the way of a Tell: told to the clients below k -/
def TellI (w : World) (R : Nat → Prop) (r : Nat) (room : Int) (ps : List Pa) (s : St) (e : Ev) (i : Value) (wx : World) : Prop := ∃ k : Nat, k ≤ 8 ∧ i = .int .i64 k ∧ ∃ R', RefAt wx R' r room ps (s.upto room.toNat e k).que (s.upto room.toNat e k).los ∧ RWent w R r wx R'
/-- ahead of the change, or behind it -/
def TellO (w : World) (R : Nat → Prop) (r : Nat) (room : Int) (ps : List Pa) (s : St) (e : Ev) (i : Value) (wx : World) : Prop := (i = .int .i64 ((0 : Nat) : Int) ∧ ∃ R', RefAt wx R' r room ps s.que s.los ∧ RWent w R r wx R') ∨ (i = .int .i64 ((1 : Nat) : Int) ∧ ∃ R', RefAt wx R' r room ps (s.upto room.toNat e 8).que (s.upto room.toNat e 8).los ∧ RWent w R r wx R')
set_option maxRecDepth 100000 in
set_option maxHeartbeats 4000000 in
theorem rTell {w : World} {R : Nat → Prop} {r gl c : Nat} {room : Int} {ps : List Pa} {s : St} (h : RefAt w R r room ps s.que s.los) (cg : Cg) (seq : Int) (hg : Is w gl 45 cg.box) (hm : ∀ n, n < 8 → (s.has n cg.us = true ↔ ((n : Int), cg.us) ∈ ps)) (hp : ps.length ≤ 1000) (hq : ∀ n, n < 8 → (s.que n).length ≤ 500) :
    Calls Try.prog 12 #[.pointer (some ⟨r, 0, none⟩), .slice (some ⟨gl, 0, none⟩) 1 c, .int .u64 seq] w (RDone w R r room ps (s.upto room.toNat (cg.ev seq) 8).que (s.upto room.toNat (cg.ev seq) 8).los) := by
  obtain ⟨i0, hE⟩ := RingE.elem
  have HE := Lib.hid hE
  have HA := Lib.hid h
  have HG := Lib.hid hg
  have HM := Lib.hid hm
  have HQ := Lib.hid hq
  have HRI : Hid (∃ cr, Is w r 33 cr) := by obtain ⟨_, _, h⟩ := h; exact ⟨_, h.box⟩
  clear h hg hm hq hE
  go_enter Try.func12, Try.ntmps12
  go_wp2_with fail
  go_loopw [6] (fun i wr => TellO w R r room ps s (cg.ev seq) i wr) (fun i _ => 1 - (intOf i).toNat)
  case atStart => exact .inl ⟨rfl, R, HA.out, RWent.of_below (Below.refl _ _)⟩
  case round =>
    rcases hrel with ⟨rfl, R1, hA, hW⟩ | ⟨rfl, R1, hA, hW⟩
    · have HA1 := Lib.hid hA
      have HW1 := Lib.hid hW
      clear hA hW HA
      go_wp2_with fail
      go_loopw [7] (fun i wx => TellI w R r room ps s (cg.ev seq) i wx) (fun i _ => 8 - (intOf i).toNat)
      case atStart => exact ⟨0, Nat.zero_le _, rfl, R1, HA1.out, HW1.out⟩
      case round =>
        clear HA1 HW1
        obtain ⟨k, hk8, rfl, R2, hA, hW⟩ := hrel
        have HA2 := Lib.hid hA
        have HW2 := Lib.hid hW
        clear hA hW
        by_cases hk : k < 8
        · have d1 : decide ((k : Int) < 8) = true := by simp; omega
          obtain ⟨cr, hcr⟩ := HRI.out
          have HG2 := Lib.hid (HW2.out.is HG.out hcr (by decide))
          obtain ⟨y0, y1, y2, y3, y4, y5, y6⟩ := Cgs.of HG2.out
          simp only [Nat.zero_add] at y0 y1 y2 y3 y4 y5 y6
          have lg := HG2.out.lt
          have HHS : Hid ((s.upto room.toNat (cg.ev seq) k).has k cg.us = true ↔ ((k : Int), cg.us) ∈ ps) := by show _ ↔ _; rw [upto_has]; exact HM.out k hk
          have HE1 : Hid (s.upto room.toNat (cg.ev seq) (k + 1) = (s.upto room.toNat (cg.ev seq) k).put1 room.toNat k (cg.ev seq)) := rfl
          have hql : ((s.upto room.toNat (cg.ev seq) k).que k).length ≤ 501 := by have h1 := upto_le room.toNat s (cg.ev seq) k k; have h2 := HQ.out k hk; omega
          generalize s.upto room.toNat (cg.ev seq) k = s1 at *
          have HRW := Lib.hid (rWatching HA2.out hp (k : Int) cg.us (res := s1.has k cg.us) HHS.out)
          clear hcr
          go_wp2_with fail
          refine HRW.out.mono ?_
          rintro e w3 ⟨rfl, hb⟩
          have HA3 := Lib.hid (HA2.out.below hb)
          have HW3 := Lib.hid (HW2.out.trans (RWent.of_below (R := R2) (r := r) hb))
          have HG3 := Lib.hid (HG2.out.below hb HG2.out.lt)
          have hbs := hb.size
          clear hb HRW HA2 HW2 y0 y1 y2 y3 y4 y5 y6
          cases hh : s1.has k cg.us with
          | false =>
            have HS : Hid (s1.put1 room.toNat k (cg.ev seq) = s1) := by show _ = _; unfold St.put1; rw [if_neg (by rw [hh]; simp)]
            go_wp2_with fail
            go_roundw
            case rel =>
              repeat apply Exists.intro
              refine ⟨?_, rfl⟩
              exact ⟨k + 1, by omega, by go_num, R2, by rw [HE1.out, HS.out]; exact HA3.out, HW3.out⟩
            case measure => simp [intOf]; omega
          | true =>
            have HS : Hid (s1.put1 room.toNat k (cg.ev seq) = { s1 with que := upd s1.que k (putL room.toNat (s1.que k) (cg.ev seq)), los := upd s1.los k (s1.los k || decide (room.toNat ≤ (s1.que k).length)) }) := by show _ = _; unfold St.put1; rw [if_pos hh]
            obtain ⟨vp, vq, hv⟩ := HA3.out
            obtain ⟨A, cq, hqv, hlq⟩ := hv.qu k hk
            have c1 : w3.cell? ⟨r, 2 + k, none⟩ = some (.slice A (s1.que k).length cq) := (hv.box.cell _).trans (by have := cellsRf_q room vp vq s1.los hk; rw [hqv] at this; simpa using this)
            have c2 : w3.cell? ⟨r, 0, none⟩ = some (.int .i64 room) := hv.box.cell' rfl
            have c3 : w3.cell? ⟨r, 10 + k, none⟩ = some (.bool (s1.los k)) := (hv.box.cell _).trans (by simpa using cellsRf_l room vp vq s1.los hk)
            have f1 := hv.box.frozen (2 + k)
            have f3 := hv.box.frozen (10 + k)
            have l1 := hv.box.lt
            have hk7 : k ≤ 7 := by omega
            have HV := Lib.hid hv
            have HLQ := Lib.hid hlq
            obtain ⟨y0, y1, y2, y3, y4, y5, y6⟩ := Cgs.of HG3.out
            simp only [Nat.zero_add] at y0 y1 y2 y3 y4 y5 y6
            have lg3 := HG3.out.lt
            clear hv hqv hlq HA3
            by_cases hfull : room ≤ ((s1.que k).length : Int)
            · have d2 : decide (room ≤ ((s1.que k).length : Int)) = true := by simpa using hfull
              have HFU : Hid (putL room.toNat (s1.que k) (cg.ev seq) = s1.que k ∧ (s1.los k || decide (room.toNat ≤ (s1.que k).length)) = true) := by
                refine ⟨putL_no (by omega), ?_⟩
                rw [Bool.or_eq_true]; right; simp; omega
              go_wp2_with fail
              go_quiet (fail)
              have hbq : Below w3.heap.size w3 (w3.drewN nq) := Law.below_drewN (Below.refl _ w3) nq
              have HV4 := Lib.hid (HV.out.below hbq)
              have HW4 := Lib.hid (HW3.out.trans (RWent.of_below (R := R2) (r := r) hbq))
              have HG4 := Lib.hid (HG3.out.below hbq HG3.out.lt)
              have HL4 : Hid (LieR R2 (w3.drewN nq) A (flatE (s1.que k))) := HLQ.out.touch (Law.Touch.of_below hbq fun _ => False) (fun _ _ h => h) HV.out.ok
              have a1 : (w3.drewN nq).cell? ⟨r, 2 + k, none⟩ = some (.slice A (s1.que k).length cq) := c1
              have a3 : (w3.drewN nq).cell? ⟨r, 10 + k, none⟩ = some (.bool (s1.los k)) := c3
              clear hbq HV HW3 HG3 HLQ c1 c2 c3 f1 f3 l1 y0 y1 y2 y3 y4 y5 y6 lg3
              generalize w3.drewN nq = W4 at *
              have f1 := HV4.out.box.frozen (2 + k)
              have f3 := HV4.out.box.frozen (10 + k)
              have l1 := HV4.out.box.lt
              obtain ⟨y0, y1, y2, y3, y4, y5, y6⟩ := Cgs.of HG4.out
              simp only [Nat.zero_add] at y0 y1 y2 y3 y4 y5 y6
              have lg3 := HG4.out.lt
              have HMK := Lib.hid (HV4.out.mark hk true)
              have HTM : Hid (RWent W4 R2 r (W4.setCell ⟨r, 10 + k, none⟩ (.bool true)) R2) := ⟨Law.Touch.store (T := fun n => n = r) W4 ⟨r, 10 + k, none⟩ _ rfl, fun _ h => .inl h⟩
              go_wp2_with fail
              go_roundw
              case rel =>
                repeat apply Exists.intro
                refine ⟨?_, rfl⟩
                refine ⟨k + 1, by omega, by go_num, R2, ?_, HW4.out.trans HTM.out⟩
                rw [HE1.out, HS.out]
                refine RefAt.congr ⟨_, _, HMK.out⟩ (fun i => ?_) (fun i => ?_)
                · show _ = upd s1.que k _ i
                  rw [HFU.out.1]
                  by_cases e : i = k
                  · subst e; rw [upd_same]
                  · rw [upd_other _ _ e]
                · show _ = upd s1.los k _ i
                  rw [HFU.out.2]
              case measure => simp [intOf]; omega
            · have d2 : decide (room ≤ ((s1.que k).length : Int)) = false := by simpa using hfull
              go_wp2_with fail
              go_quiet (fail)
              have hbq : Below w3.heap.size w3 (w3.drewN nq) := Law.below_drewN (Below.refl _ w3) nq
              have HV4 := Lib.hid (HV.out.below hbq)
              have HW4 := Lib.hid (HW3.out.trans (RWent.of_below (R := R2) (r := r) hbq))
              have HG4 := Lib.hid (HG3.out.below hbq HG3.out.lt)
              have HL4 : Hid (LieR R2 (w3.drewN nq) A (flatE (s1.que k))) := HLQ.out.touch (Law.Touch.of_below hbq fun _ => False) (fun _ _ h => h) HV.out.ok
              have a1 : (w3.drewN nq).cell? ⟨r, 2 + k, none⟩ = some (.slice A (s1.que k).length cq) := c1
              have a3 : (w3.drewN nq).cell? ⟨r, 10 + k, none⟩ = some (.bool (s1.los k)) := c3
              clear hbq HV HW3 HG3 HLQ c1 c2 c3 f1 f3 l1 y0 y1 y2 y3 y4 y5 y6 lg3
              generalize w3.drewN nq = W4 at *
              have f1 := HV4.out.box.frozen (2 + k)
              have f3 := HV4.out.box.frozen (10 + k)
              have l1 := HV4.out.box.lt
              obtain ⟨y0, y1, y2, y3, y4, y5, y6⟩ := Cgs.of HG4.out
              simp only [Nat.zero_add] at y0 y1 y2 y3 y4 y5 y6
              have lg3 := HG4.out.lt
              have HFU : Hid (putL room.toNat (s1.que k) (cg.ev seq) = s1.que k ++ [cg.ev seq] ∧ (s1.los k || decide (room.toNat ≤ (s1.que k).length)) = s1.los k) := by
                refine ⟨putL_yes (by omega), ?_⟩
                rw [decide_eq_false (by omega), Bool.or_false]
              have HSQ := Lib.hid (HL4.out.seq HV4.out.ok)
              have HK : Hid (∀ w', Below W4.heap.size W4 w' → (fun w' => w'.cell? ⟨gl, 0, none⟩ = some (.string cg.us) ∧ w'.cell? ⟨gl, 1, none⟩ = some (.int .i64 cg.o1) ∧ w'.cell? ⟨gl, 2, none⟩ = some (.int .i64 cg.o2) ∧ w'.cell? ⟨gl, 3, none⟩ = some (.int .i64 cg.o3) ∧ w'.cell? ⟨gl, 4, none⟩ = some (.int .i64 cg.n1) ∧ w'.cell? ⟨gl, 5, none⟩ = some (.int .i64 cg.n2) ∧ w'.cell? ⟨gl, 6, none⟩ = some (.int .i64 cg.n3)) w') := fun w' h => ⟨(h.cell (p := ⟨gl, 0, none⟩) lg3).trans y0, (h.cell (p := ⟨gl, 1, none⟩) lg3).trans y1, (h.cell (p := ⟨gl, 2, none⟩) lg3).trans y2, (h.cell (p := ⟨gl, 3, none⟩) lg3).trans y3, (h.cell (p := ⟨gl, 4, none⟩) lg3).trans y4, (h.cell (p := ⟨gl, 5, none⟩) lg3).trans y5, (h.cell (p := ⟨gl, 6, none⟩) lg3).trans y6⟩
              have hglr : gl ≠ r := HG4.out.type_ne HV4.out.box (by decide)
              have HK2 : Hid (∀ w', Below W4.heap.size W4 w' → ∀ v, (fun w' => w'.cell? ⟨gl, 0, none⟩ = some (.string cg.us) ∧ w'.cell? ⟨gl, 1, none⟩ = some (.int .i64 cg.o1) ∧ w'.cell? ⟨gl, 2, none⟩ = some (.int .i64 cg.o2) ∧ w'.cell? ⟨gl, 3, none⟩ = some (.int .i64 cg.o3) ∧ w'.cell? ⟨gl, 4, none⟩ = some (.int .i64 cg.n1) ∧ w'.cell? ⟨gl, 5, none⟩ = some (.int .i64 cg.n2) ∧ w'.cell? ⟨gl, 6, none⟩ = some (.int .i64 cg.n3)) (w'.setCell ⟨r, 2 + k, none⟩ v)) := fun w' h v => ⟨(World.cell?_of_block (Below.heap_setCell w' ⟨r, 2 + k, none⟩ v gl hglr)).trans ((h.cell (p := ⟨gl, 0, none⟩) lg3).trans y0), (World.cell?_of_block (Below.heap_setCell w' ⟨r, 2 + k, none⟩ v gl hglr)).trans ((h.cell (p := ⟨gl, 1, none⟩) lg3).trans y1), (World.cell?_of_block (Below.heap_setCell w' ⟨r, 2 + k, none⟩ v gl hglr)).trans ((h.cell (p := ⟨gl, 2, none⟩) lg3).trans y2), (World.cell?_of_block (Below.heap_setCell w' ⟨r, 2 + k, none⟩ v gl hglr)).trans ((h.cell (p := ⟨gl, 3, none⟩) lg3).trans y3), (World.cell?_of_block (Below.heap_setCell w' ⟨r, 2 + k, none⟩ v gl hglr)).trans ((h.cell (p := ⟨gl, 4, none⟩) lg3).trans y4), (World.cell?_of_block (Below.heap_setCell w' ⟨r, 2 + k, none⟩ v gl hglr)).trans ((h.cell (p := ⟨gl, 5, none⟩) lg3).trans y5), (World.cell?_of_block (Below.heap_setCell w' ⟨r, 2 + k, none⟩ v gl hglr)).trans ((h.cell (p := ⟨gl, 6, none⟩) lg3).trans y6)⟩
              have K0 : Below W4.heap.size W4 W4.drew := Law.below_drewN (Below.refl _ W4) 1
              go_wp2_with fail
              refine wp_region_held_drew (S := fun w' => w'.cell? ⟨gl, 0, none⟩ = some (.string cg.us) ∧ w'.cell? ⟨gl, 1, none⟩ = some (.int .i64 cg.o1) ∧ w'.cell? ⟨gl, 2, none⟩ = some (.int .i64 cg.o2) ∧ w'.cell? ⟨gl, 3, none⟩ = some (.int .i64 cg.o3) ∧ w'.cell? ⟨gl, 4, none⟩ = some (.int .i64 cg.n1) ∧ w'.cell? ⟨gl, 5, none⟩ = some (.int .i64 cg.n2) ∧ w'.cell? ⟨gl, 6, none⟩ = some (.int .i64 cg.n3)) (by kernel_rfl) (HK.out _ K0) (fun hS => ?_)
              have HB := Lib.hid K0
              clear K0
              generalize W4.drew = Y0 at *
              refine wpAnyH_take (i := 0) (oi := { dst := some 44, op := .move (.tmp 0), type := _, pos := _, after := _, guard := _ }) (v := .pointer (some ⟨r, 0, none⟩)) rfl (by kernel_rfl) (by kernel_rfl) (by kernel_rfl) (fun _ _ _ h => h) (Or.inl ⟨by rfl, ?_⟩) hS ?_
              · intro w' hSw
                go_simp
              try simp only [Act.put, List.setIfInBounds_toArray, List.set_cons_zero, List.set_cons_succ]
              refine wpAnyH_take (i := 1) (oi := { dst := some 45, op := .move (.tmp 7), type := _, pos := _, after := _, guard := _ }) (v := .int .i64 (k : Int)) rfl (by kernel_rfl) (by kernel_rfl) (by kernel_rfl) (fun _ _ _ h => h) (Or.inl ⟨by rfl, ?_⟩) hS ?_
              · intro w' hSw
                go_simp
              try simp only [Act.put, List.setIfInBounds_toArray, List.set_cons_zero, List.set_cons_succ]
              refine wpAnyH_take (i := 3) (oi := { dst := some 47, op := .move (.tmp 0), type := _, pos := _, after := _, guard := _ }) (v := .pointer (some ⟨r, 0, none⟩)) rfl (by kernel_rfl) (by kernel_rfl) (by kernel_rfl) (fun _ _ _ h => h) (Or.inl ⟨by rfl, ?_⟩) hS ?_
              · intro w' hSw
                go_simp
              try simp only [Act.put, List.setIfInBounds_toArray, List.set_cons_zero, List.set_cons_succ]
              refine wpAnyH_take (i := 4) (oi := { dst := some 48, op := .move (.tmp 7), type := _, pos := _, after := _, guard := _ }) (v := .int .i64 (k : Int)) rfl (by kernel_rfl) (by kernel_rfl) (by kernel_rfl) (fun _ _ _ h => h) (Or.inl ⟨by rfl, ?_⟩) hS ?_
              · intro w' hSw
                go_simp
              try simp only [Act.put, List.setIfInBounds_toArray, List.set_cons_zero, List.set_cons_succ]
              refine wpAnyH_take (i := 5) (oi := { dst := some 49, op := .nilCheck (.tmp 47), type := _, pos := _, after := _, guard := _ }) (v := .pointer (some ⟨r, 0, none⟩)) rfl (by kernel_rfl) (by kernel_rfl) (by kernel_rfl) (fun _ _ _ h => h) (Or.inl ⟨by rfl, ?_⟩) hS ?_
              · intro w' hSw
                go_simp
              try simp only [Act.put, List.setIfInBounds_toArray, List.set_cons_zero, List.set_cons_succ]
              refine wpAnyH_take (i := 6) (oi := { dst := some 50, op := .fieldAddr 33 (.tmp 49) 2, type := _, pos := _, after := _, guard := _ }) (v := .pointer (some ⟨r, 2, none⟩)) rfl (by kernel_rfl) (by kernel_rfl) (by kernel_rfl) (fun _ _ _ h => h) (Or.inl ⟨by rfl, ?_⟩) hS ?_
              · intro w' hSw
                go_simp
              try simp only [Act.put, List.setIfInBounds_toArray, List.set_cons_zero, List.set_cons_succ]
              refine wpAnyH_take (i := 7) (oi := { dst := some 51, op := .indexAddr 30 (.tmp 50) (.tmp 48), type := _, pos := _, after := _, guard := _ }) (v := .pointer (some ⟨r, 2 + k, none⟩)) rfl (by kernel_rfl) (by kernel_rfl) (by kernel_rfl) (fun _ _ _ h => h) (Or.inl ⟨by rfl, ?_⟩) hS ?_
              · intro w' hSw
                go_simp; (try (intro h8; omega))
              try simp only [Act.put, List.setIfInBounds_toArray, List.set_cons_zero, List.set_cons_succ]
              refine wpAnyH_take (i := 10) (oi := { dst := some 54, op := .move (.tmp 1), type := _, pos := _, after := _, guard := _ }) (v := .slice (some ⟨gl, 0, none⟩) 1 c) rfl (by kernel_rfl) (by kernel_rfl) (by kernel_rfl) (fun _ _ _ h => h) (Or.inl ⟨by rfl, ?_⟩) hS ?_
              · intro w' hSw
                go_simp
              try simp only [Act.put, List.setIfInBounds_toArray, List.set_cons_zero, List.set_cons_succ]
              refine wpAnyH_take (i := 11) (oi := { dst := some 55, op := .move (.tmp 6), type := _, pos := _, after := _, guard := _ }) (v := .int .i64 0) rfl (by kernel_rfl) (by kernel_rfl) (by kernel_rfl) (fun _ _ _ h => h) (Or.inl ⟨by rfl, ?_⟩) hS ?_
              · intro w' hSw
                go_simp
              try simp only [Act.put, List.setIfInBounds_toArray, List.set_cons_zero, List.set_cons_succ]
              refine wpAnyH_take (i := 12) (oi := { dst := some 56, op := .indexAddr 46 (.tmp 54) (.tmp 55), type := _, pos := _, after := _, guard := _ }) (v := .pointer (some ⟨gl, 0, none⟩)) rfl (by kernel_rfl) (by kernel_rfl) (by kernel_rfl) (fun _ _ _ h => h) (Or.inl ⟨by rfl, ?_⟩) hS ?_
              · intro w' hSw
                go_simp; (try (intro h8; omega))
              try simp only [Act.put, List.setIfInBounds_toArray, List.set_cons_zero, List.set_cons_succ]
              refine wpAnyH_take (i := 13) (oi := { dst := some 57, op := .fieldAddr 45 (.tmp 56) 0, type := _, pos := _, after := _, guard := _ }) (v := .pointer (some ⟨gl, 0, none⟩)) rfl (by kernel_rfl) (by kernel_rfl) (by kernel_rfl) (fun _ _ _ h => h) (Or.inl ⟨by rfl, ?_⟩) hS ?_
              · intro w' hSw
                go_simp
              try simp only [Act.put, List.setIfInBounds_toArray, List.set_cons_zero, List.set_cons_succ]
              refine wpAnyH_take (i := 14) (oi := { dst := some 58, op := .load 9 (.tmp 57), type := _, pos := _, after := _, guard := _ }) (v := .string cg.us) rfl (by kernel_rfl) (by kernel_rfl) (by kernel_rfl) (fun _ _ _ h => h) (Or.inl ⟨by rfl, ?_⟩) hS ?_
              · intro w' hSw
                go_simp
              try simp only [Act.put, List.setIfInBounds_toArray, List.set_cons_zero, List.set_cons_succ]
              refine wpAnyH_take (i := 15) (oi := { dst := some 59, op := .move (.tmp 1), type := _, pos := _, after := _, guard := _ }) (v := .slice (some ⟨gl, 0, none⟩) 1 c) rfl (by kernel_rfl) (by kernel_rfl) (by kernel_rfl) (fun _ _ _ h => h) (Or.inl ⟨by rfl, ?_⟩) hS ?_
              · intro w' hSw
                go_simp
              try simp only [Act.put, List.setIfInBounds_toArray, List.set_cons_zero, List.set_cons_succ]
              refine wpAnyH_take (i := 16) (oi := { dst := some 60, op := .move (.tmp 6), type := _, pos := _, after := _, guard := _ }) (v := .int .i64 0) rfl (by kernel_rfl) (by kernel_rfl) (by kernel_rfl) (fun _ _ _ h => h) (Or.inl ⟨by rfl, ?_⟩) hS ?_
              · intro w' hSw
                go_simp
              try simp only [Act.put, List.setIfInBounds_toArray, List.set_cons_zero, List.set_cons_succ]
              refine wpAnyH_take (i := 17) (oi := { dst := some 61, op := .indexAddr 46 (.tmp 59) (.tmp 60), type := _, pos := _, after := _, guard := _ }) (v := .pointer (some ⟨gl, 0, none⟩)) rfl (by kernel_rfl) (by kernel_rfl) (by kernel_rfl) (fun _ _ _ h => h) (Or.inl ⟨by rfl, ?_⟩) hS ?_
              · intro w' hSw
                go_simp; (try (intro h8; omega))
              try simp only [Act.put, List.setIfInBounds_toArray, List.set_cons_zero, List.set_cons_succ]
              refine wpAnyH_take (i := 18) (oi := { dst := some 62, op := .fieldAddr 45 (.tmp 61) 1, type := _, pos := _, after := _, guard := _ }) (v := .pointer (some ⟨gl, 1, none⟩)) rfl (by kernel_rfl) (by kernel_rfl) (by kernel_rfl) (fun _ _ _ h => h) (Or.inl ⟨by rfl, ?_⟩) hS ?_
              · intro w' hSw
                go_simp
              try simp only [Act.put, List.setIfInBounds_toArray, List.set_cons_zero, List.set_cons_succ]
              refine wpAnyH_take (i := 19) (oi := { dst := some 63, op := .load 40 (.tmp 62), type := _, pos := _, after := _, guard := _ }) (v := .agg #[.int .i64 cg.o1, .int .i64 cg.o2, .int .i64 cg.o3]) rfl (by kernel_rfl) (by kernel_rfl) (by kernel_rfl) (fun _ _ _ h => h) (Or.inl ⟨by rfl, ?_⟩) hS ?_
              · intro w' hSw
                go_simp
              try simp only [Act.put, List.setIfInBounds_toArray, List.set_cons_zero, List.set_cons_succ]
              refine wpAnyH_take (i := 20) (oi := { dst := some 64, op := .move (.tmp 1), type := _, pos := _, after := _, guard := _ }) (v := .slice (some ⟨gl, 0, none⟩) 1 c) rfl (by kernel_rfl) (by kernel_rfl) (by kernel_rfl) (fun _ _ _ h => h) (Or.inl ⟨by rfl, ?_⟩) hS ?_
              · intro w' hSw
                go_simp
              try simp only [Act.put, List.setIfInBounds_toArray, List.set_cons_zero, List.set_cons_succ]
              refine wpAnyH_take (i := 21) (oi := { dst := some 65, op := .move (.tmp 6), type := _, pos := _, after := _, guard := _ }) (v := .int .i64 0) rfl (by kernel_rfl) (by kernel_rfl) (by kernel_rfl) (fun _ _ _ h => h) (Or.inl ⟨by rfl, ?_⟩) hS ?_
              · intro w' hSw
                go_simp
              try simp only [Act.put, List.setIfInBounds_toArray, List.set_cons_zero, List.set_cons_succ]
              refine wpAnyH_take (i := 22) (oi := { dst := some 66, op := .indexAddr 46 (.tmp 64) (.tmp 65), type := _, pos := _, after := _, guard := _ }) (v := .pointer (some ⟨gl, 0, none⟩)) rfl (by kernel_rfl) (by kernel_rfl) (by kernel_rfl) (fun _ _ _ h => h) (Or.inl ⟨by rfl, ?_⟩) hS ?_
              · intro w' hSw
                go_simp; (try (intro h8; omega))
              try simp only [Act.put, List.setIfInBounds_toArray, List.set_cons_zero, List.set_cons_succ]
              refine wpAnyH_take (i := 23) (oi := { dst := some 67, op := .fieldAddr 45 (.tmp 66) 2, type := _, pos := _, after := _, guard := _ }) (v := .pointer (some ⟨gl, 4, none⟩)) rfl (by kernel_rfl) (by kernel_rfl) (by kernel_rfl) (fun _ _ _ h => h) (Or.inl ⟨by rfl, ?_⟩) hS ?_
              · intro w' hSw
                go_simp
              try simp only [Act.put, List.setIfInBounds_toArray, List.set_cons_zero, List.set_cons_succ]
              refine wpAnyH_take (i := 24) (oi := { dst := some 68, op := .load 40 (.tmp 67), type := _, pos := _, after := _, guard := _ }) (v := .agg #[.int .i64 cg.n1, .int .i64 cg.n2, .int .i64 cg.n3]) rfl (by kernel_rfl) (by kernel_rfl) (by kernel_rfl) (fun _ _ _ h => h) (Or.inl ⟨by rfl, ?_⟩) hS ?_
              · intro w' hSw
                go_simp
              try simp only [Act.put, List.setIfInBounds_toArray, List.set_cons_zero, List.set_cons_succ]
              refine wpAnyH_take (i := 25) (oi := { dst := some 69, op := .move (.tmp 2), type := _, pos := _, after := _, guard := _ }) (v := .int .u64 seq) rfl (by kernel_rfl) (by kernel_rfl) (by kernel_rfl) (fun _ _ _ h => h) (Or.inl ⟨by rfl, ?_⟩) hS ?_
              · intro w' hSw
                go_simp
              try simp only [Act.put, List.setIfInBounds_toArray, List.set_cons_zero, List.set_cons_succ]
              refine wpAnyH_take (i := 26) (oi := { dst := some 70, op := .build 54 #[(0, .tmp 58), (1, .tmp 63), (2, .tmp 68), (3, .tmp 69)], type := _, pos := _, after := _, guard := _ }) (v := .agg #[.string cg.us, .int .i64 cg.o1, .int .i64 cg.o2, .int .i64 cg.o3, .int .i64 cg.n1, .int .i64 cg.n2, .int .i64 cg.n3, .int .u64 seq]) rfl (by kernel_rfl) (by kernel_rfl) (by kernel_rfl) (fun _ _ _ h => h) (Or.inl ⟨by rfl, ?_⟩) hS ?_
              · intro w' hSw
                go_simp
              try simp only [Act.put, List.setIfInBounds_toArray, List.set_cons_zero, List.set_cons_succ]
              refine wpAnyH_take (i := 29) (oi := { dst := some 73, op := .nilCheck (.tmp 44), type := _, pos := _, after := _, guard := _ }) (v := .pointer (some ⟨r, 0, none⟩)) rfl (by kernel_rfl) (by kernel_rfl) (by kernel_rfl) (fun _ _ _ h => h) (Or.inl ⟨by rfl, ?_⟩) hS ?_
              · intro w' hSw
                go_simp
              try simp only [Act.put, List.setIfInBounds_toArray, List.set_cons_zero, List.set_cons_succ]
              refine wpAnyH_take (i := 30) (oi := { dst := some 74, op := .fieldAddr 33 (.tmp 73) 2, type := _, pos := _, after := _, guard := _ }) (v := .pointer (some ⟨r, 2, none⟩)) rfl (by kernel_rfl) (by kernel_rfl) (by kernel_rfl) (fun _ _ _ h => h) (Or.inl ⟨by rfl, ?_⟩) hS ?_
              · intro w' hSw
                go_simp
              try simp only [Act.put, List.setIfInBounds_toArray, List.set_cons_zero, List.set_cons_succ]
              clear hS
              refine wpAnyH_ready (rs := [2, 8, 27]) (by kernel_rfl) (by simp) ?_
              refine AllReadyH.cons (o := { dst := some 46, op := .buildSlice 29 0 #[], type := _, pos := _, after := _, guard := _ }) rfl (fun K hK => ?_) ?_
              · go_simp
                refine hK.out _ _ (HK.out _ (HB.out.alloc HB.out.size (.cells #[] 54))) (fun _ => ?_)
                clear hK K
                try simp only [Act.put, List.setIfInBounds_toArray, List.set_cons_zero, List.set_cons_succ]
                have HB2 := Lib.hid (HB.out.alloc HB.out.size (.cells #[] 54))
                have sb := HB.out.size
                have OA2 := Lib.hid (own_emptyR Y0 54 (base := W4.heap.size) sb)
                have na : W4.heap.size ≤ Y0.heap.size := sb
                have la2 : Y0.heap.size < (Y0.alloc (.cells #[] 54)).heap.size := by simp
                generalize Y0.alloc (.cells #[] 54) = Y1 at *
                clear HB sb
                generalize Y0.heap.size = ga at *
                have HB := HB2
                clear HB2
                have OA := OA2
                clear OA2
                have la := la2
                clear la2
                refine wpAnyH_ready (rs := [8, 27]) (by kernel_rfl) (by simp) ?_
                refine AllReadyH.cons (o := { dst := some 52, op := .load 29 (.tmp 51), type := _, pos := _, after := _, guard := _ }) rfl (fun K hK => ?_) ?_
                · have cl : Y1.cell? ⟨r, 2 + k, none⟩ = some (.slice A (s1.que k).length cq) := (HB.out.cell (p := ⟨r, 2 + k, none⟩) l1).trans a1
                  go_simp
                  refine hK.out _ _ (HK.out _ HB.out) (fun _ => ?_)
                  clear hK K cl
                  try simp only [Act.put, List.setIfInBounds_toArray, List.set_cons_zero, List.set_cons_succ]
                  refine wpAnyH_ready (rs := [9, 27]) (by kernel_rfl) (by simp) ?_
                  refine AllReadyH.cons (o := { dst := some 53, op := .call { callee := .builtin .append, args := #[.tmp 46, .tmp 52], argTypes := #[29, 29] }, type := _, pos := _, after := _, guard := _ }) rfl (fun K hK => ?_) ?_
                  · refine Law.step_append_seq _ W4.heap.size 29 rfl (.tmp 46) (.tmp 52) rfl HE.out (.slice (some ⟨ga, 0, none⟩) 0 0) 0 [] (by simp [Act.eval]) (by exact OA.out) 0 W4.heap.size A (s1.que k).length cq (flatE (s1.que k)) (by simp [Act.eval]) (flatE_length _) (HSQ.out.below HB.out) (flatE_one _) (by unfold maxLen; omega) (by omega) HB.out.size ?_
                    intro v3 Y3 own grow
                    have hb2 : Below W4.heap.size W4 Y3 := HB.out.grown grow HB.out.size (fun g hg => by have h9 : ga = g := Option.some.inj hg; omega)
                    refine hK.out _ _ (HK.out _ hb2) (fun _ => ?_)
                    clear hK K
                    try simp only [Act.put, List.setIfInBounds_toArray, List.set_cons_zero, List.set_cons_succ]
                    have OA2 : Hid (Y3.ownsRow W4.heap.size 54 8 v3 (s1.que k).length (flatE (s1.que k))) := by show World.ownsRow _ _ _ _ _ _ _; simpa using own
                    have HB2 := Lib.hid hb2
                    obtain ⟨A5, c5, rfl, _⟩ := own_shape OA2.out
                    clear own grow hb2 HB OA la
                    have HB := HB2
                    have OA := OA2
                    clear HB2 OA2
                    refine wpAnyH_ready (rs := [27]) (by kernel_rfl) (by simp) ?_
                    refine AllReadyH.cons (o := { dst := some 71, op := .buildSlice 29 1 #[(0, .tmp 70)], type := _, pos := _, after := _, guard := _ }) rfl (fun K hK => ?_) AllReadyH.nil
                    go_simp
                    refine hK.out _ _ (HK.out _ (HB.out.alloc HB.out.size (.cells #[.string cg.us, .int .i64 cg.o1, .int .i64 cg.o2, .int .i64 cg.o3, .int .i64 cg.n1, .int .i64 cg.n2, .int .i64 cg.n3, .int .u64 seq] 54))) (fun _ => ?_)
                    clear hK K
                    try simp only [Act.put, List.setIfInBounds_toArray, List.set_cons_zero, List.set_cons_succ]
                    have HB2 := Lib.hid (HB.out.alloc HB.out.size (.cells #[.string cg.us, .int .i64 cg.o1, .int .i64 cg.o2, .int .i64 cg.o3, .int .i64 cg.n1, .int .i64 cg.n2, .int .i64 cg.n3, .int .u64 seq] 54))
                    have sb := HB.out.size
                    have OA2 := Lib.hid (OA.out.alloc (.cells #[.string cg.us, .int .i64 cg.o1, .int .i64 cg.o2, .int .i64 cg.o3, .int .i64 cg.n1, .int .i64 cg.n2, .int .i64 cg.n3, .int .u64 seq] 54))
                    have IC2 := Lib.hid (Is.new Y3 54 #[.string cg.us, .int .i64 cg.o1, .int .i64 cg.o2, .int .i64 cg.o3, .int .i64 cg.n1, .int .i64 cg.n2, .int .i64 cg.n3, .int .u64 seq] rfl)
                    generalize Y3.alloc (.cells #[.string cg.us, .int .i64 cg.o1, .int .i64 cg.o2, .int .i64 cg.o3, .int .i64 cg.n1, .int .i64 cg.n2, .int .i64 cg.n3, .int .u64 seq] 54) = Y4 at *
                    clear HB sb OA
                    generalize Y3.heap.size = gc at *
                    have HB := HB2
                    clear HB2
                    have OA := OA2
                    clear OA2
                    have IC := IC2
                    clear IC2
                    refine wpAnyH_ready (rs := [28]) (by kernel_rfl) (by simp) ?_
                    refine AllReadyH.cons (o := { dst := some 72, op := .call { callee := .builtin .append, args := #[.tmp 53, .tmp 71], argTypes := #[29, 29] }, type := _, pos := _, after := _, guard := _ }) rfl (fun K hK => ?_) AllReadyH.nil
                    refine Law.step_append_seq _ W4.heap.size 29 rfl (.tmp 53) (.tmp 71) rfl HE.out (.slice A5 (s1.que k).length c5) (s1.que k).length (flatE (s1.que k)) (by simp [Act.eval]) (by exact OA.out) gc (gc + 1) (some ⟨gc, 0, none⟩) 1 1 (cellsE (cg.ev seq)) (by simp [Act.eval]) rfl (seq_box IC.out) (one_E _) (by unfold maxLen; omega) (by omega) HB.out.size ?_
                    intro v5 Y5 own grow
                    have hb2 : Below W4.heap.size W4 Y5 := HB.out.grown grow HB.out.size (fun g hg => (OA.out.lt g hg).1)
                    refine hK.out _ _ (HK.out _ hb2) (fun _ => ?_)
                    clear hK K
                    try simp only [Act.put, List.setIfInBounds_toArray, List.set_cons_zero, List.set_cons_succ]
                    have OA2 : Hid (Y5.ownsRow W4.heap.size 54 8 v5 ((s1.que k).length + 1) (flatE (s1.que k ++ [cg.ev seq]))) := by show World.ownsRow _ _ _ _ _ _ _; rw [flatE_snoc]; exact own
                    have HB2 := Lib.hid hb2
                    obtain ⟨A7, c7, rfl, _⟩ := own_shape OA2.out
                    clear own grow hb2 HB OA IC
                    have HB := HB2
                    have OA := OA2
                    clear HB2 OA2
                    refine wpAnyH_take (i := 31) (oi := { dst := some 75, op := .indexAddr 30 (.tmp 74) (.tmp 45), type := _, pos := _, after := _, guard := _ }) (v := .pointer (some ⟨r, 2 + k, none⟩)) rfl (by kernel_rfl) (by kernel_rfl) (by kernel_rfl) (fun _ _ _ h => h) (Or.inl ⟨by rfl, ?_⟩) (HK.out _ HB.out) ?_
                    · intro w' hSw
                      go_simp; (try (intro h8; omega))
                    try simp only [Act.put, List.setIfInBounds_toArray, List.set_cons_zero, List.set_cons_succ]
                    refine wpAnyH_ready (rs := [32]) (by kernel_rfl) (by simp) ?_
                    refine AllReadyH.cons (o := { dst := none, op := .store 29 (.tmp 75) (.tmp 72), type := _, pos := _, after := _, guard := _ }) rfl (fun K hK => ?_) AllReadyH.nil
                    have I7 := HV4.out.box.below HB.out HV4.out.box.lt
                    have b1 : Y5.cell? ⟨r, 2 + k, none⟩ = some (.slice A (s1.que k).length cq) := (HB.out.cell (p := ⟨r, 2 + k, none⟩) l1).trans a1
                    have g1 := I7.frozen (2 + k)
                    have k1 := I7.lt
                    clear I7
                    go_simp
                    refine hK.out _ _ (HK2.out _ HB.out _) (fun _ => ?_)
                    clear hK K b1 g1 k1
                    try simp only [Act.put, List.setIfInBounds_toArray, List.set_cons_zero, List.set_cons_succ]
                    refine wpAnyH_done (by kernel_rfl) ?_ _
                    have HFIN := Lib.hid (room_left HV4.out hk HB.out OA.out)
                    go_wp2_with fail
                    go_roundw
                    case rel =>
                      (try (repeat apply Exists.intro))
                      (try refine ⟨?_, rfl⟩)
                      obtain ⟨R7, hR7, hW7⟩ := HFIN.out
                      refine ⟨k + 1, by omega, by go_num, R7, ?_, HW4.out.trans hW7⟩
                      rw [HE1.out, HS.out]
                      refine hR7.congr (fun i => ?_) (fun i => ?_)
                      · show _ = upd s1.que k _ i
                        rw [HFU.out.1]
                      · show _ = upd s1.los k _ i
                        rw [HFU.out.2]
                        by_cases e : i = k
                        · subst e; rw [upd_same]
                        · rw [upd_other _ _ e]
                    case measure => simp [intOf]; omega
                  refine AllReadyH.cons (o := { dst := some 71, op := .buildSlice 29 1 #[(0, .tmp 70)], type := _, pos := _, after := _, guard := _ }) rfl (fun K hK => ?_) AllReadyH.nil
                  go_simp
                  refine hK.out _ _ (HK.out _ (HB.out.alloc HB.out.size (.cells #[.string cg.us, .int .i64 cg.o1, .int .i64 cg.o2, .int .i64 cg.o3, .int .i64 cg.n1, .int .i64 cg.n2, .int .i64 cg.n3, .int .u64 seq] 54))) (fun _ => ?_)
                  clear hK K
                  try simp only [Act.put, List.setIfInBounds_toArray, List.set_cons_zero, List.set_cons_succ]
                  have HB2 := Lib.hid (HB.out.alloc HB.out.size (.cells #[.string cg.us, .int .i64 cg.o1, .int .i64 cg.o2, .int .i64 cg.o3, .int .i64 cg.n1, .int .i64 cg.n2, .int .i64 cg.n3, .int .u64 seq] 54))
                  have sb := HB.out.size
                  have OA2 := Lib.hid (OA.out.alloc (.cells #[.string cg.us, .int .i64 cg.o1, .int .i64 cg.o2, .int .i64 cg.o3, .int .i64 cg.n1, .int .i64 cg.n2, .int .i64 cg.n3, .int .u64 seq] 54))
                  have IC2 := Lib.hid (Is.new Y1 54 #[.string cg.us, .int .i64 cg.o1, .int .i64 cg.o2, .int .i64 cg.o3, .int .i64 cg.n1, .int .i64 cg.n2, .int .i64 cg.n3, .int .u64 seq] rfl)
                  have nac : ga ≠ Y1.heap.size := by omega
                  have la2 : ga < (Y1.alloc (.cells #[.string cg.us, .int .i64 cg.o1, .int .i64 cg.o2, .int .i64 cg.o3, .int .i64 cg.n1, .int .i64 cg.n2, .int .i64 cg.n3, .int .u64 seq] 54)).heap.size := by simp; omega
                  generalize Y1.alloc (.cells #[.string cg.us, .int .i64 cg.o1, .int .i64 cg.o2, .int .i64 cg.o3, .int .i64 cg.n1, .int .i64 cg.n2, .int .i64 cg.n3, .int .u64 seq] 54) = Y7 at *
                  clear HB sb OA la
                  generalize Y1.heap.size = gc at *
                  have HB := HB2
                  clear HB2
                  have OA := OA2
                  clear OA2
                  have IC := IC2
                  clear IC2
                  have la := la2
                  clear la2
                  refine wpAnyH_ready (rs := [9]) (by kernel_rfl) (by simp) ?_
                  refine AllReadyH.cons (o := { dst := some 53, op := .call { callee := .builtin .append, args := #[.tmp 46, .tmp 52], argTypes := #[29, 29] }, type := _, pos := _, after := _, guard := _ }) rfl (fun K hK => ?_) AllReadyH.nil
                  refine Law.step_append_seq _ W4.heap.size 29 rfl (.tmp 46) (.tmp 52) rfl HE.out (.slice (some ⟨ga, 0, none⟩) 0 0) 0 [] (by simp [Act.eval]) (by exact OA.out) 0 W4.heap.size A (s1.que k).length cq (flatE (s1.que k)) (by simp [Act.eval]) (flatE_length _) (HSQ.out.below HB.out) (flatE_one _) (by unfold maxLen; omega) (by omega) HB.out.size ?_
                  intro v8 Y8 own grow
                  have hb2 : Below W4.heap.size W4 Y8 := HB.out.grown grow HB.out.size (fun g hg => by have h9 : ga = g := Option.some.inj hg; omega)
                  refine hK.out _ _ (HK.out _ hb2) (fun _ => ?_)
                  clear hK K
                  try simp only [Act.put, List.setIfInBounds_toArray, List.set_cons_zero, List.set_cons_succ]
                  have OA2 : Hid (Y8.ownsRow W4.heap.size 54 8 v8 (s1.que k).length (flatE (s1.que k))) := by show World.ownsRow _ _ _ _ _ _ _; simpa using own
                  have HB2 := Lib.hid hb2
                  have IC2 : Hid (Is Y8 gc 54 #[.string cg.us, .int .i64 cg.o1, .int .i64 cg.o2, .int .i64 cg.o3, .int .i64 cg.n1, .int .i64 cg.n2, .int .i64 cg.n3, .int .u64 seq]) := (grow.block gc IC.out.lt (fun h => nac (Option.some.inj h).symm)).trans IC.out
                  obtain ⟨A5, c5, rfl, _⟩ := own_shape OA2.out
                  clear own grow hb2 HB OA la IC nac
                  have HB := HB2
                  have OA := OA2
                  clear HB2 OA2
                  have IC := IC2
                  clear IC2
                  refine wpAnyH_ready (rs := [28]) (by kernel_rfl) (by simp) ?_
                  refine AllReadyH.cons (o := { dst := some 72, op := .call { callee := .builtin .append, args := #[.tmp 53, .tmp 71], argTypes := #[29, 29] }, type := _, pos := _, after := _, guard := _ }) rfl (fun K hK => ?_) AllReadyH.nil
                  refine Law.step_append_seq _ W4.heap.size 29 rfl (.tmp 53) (.tmp 71) rfl HE.out (.slice A5 (s1.que k).length c5) (s1.que k).length (flatE (s1.que k)) (by simp [Act.eval]) (by exact OA.out) gc (gc + 1) (some ⟨gc, 0, none⟩) 1 1 (cellsE (cg.ev seq)) (by simp [Act.eval]) rfl (seq_box IC.out) (one_E _) (by unfold maxLen; omega) (by omega) HB.out.size ?_
                  intro v9 Y9 own grow
                  have hb2 : Below W4.heap.size W4 Y9 := HB.out.grown grow HB.out.size (fun g hg => (OA.out.lt g hg).1)
                  refine hK.out _ _ (HK.out _ hb2) (fun _ => ?_)
                  clear hK K
                  try simp only [Act.put, List.setIfInBounds_toArray, List.set_cons_zero, List.set_cons_succ]
                  have OA2 : Hid (Y9.ownsRow W4.heap.size 54 8 v9 ((s1.que k).length + 1) (flatE (s1.que k ++ [cg.ev seq]))) := by show World.ownsRow _ _ _ _ _ _ _; rw [flatE_snoc]; exact own
                  have HB2 := Lib.hid hb2
                  obtain ⟨A7, c7, rfl, _⟩ := own_shape OA2.out
                  clear own grow hb2 HB OA IC
                  have HB := HB2
                  have OA := OA2
                  clear HB2 OA2
                  refine wpAnyH_take (i := 31) (oi := { dst := some 75, op := .indexAddr 30 (.tmp 74) (.tmp 45), type := _, pos := _, after := _, guard := _ }) (v := .pointer (some ⟨r, 2 + k, none⟩)) rfl (by kernel_rfl) (by kernel_rfl) (by kernel_rfl) (fun _ _ _ h => h) (Or.inl ⟨by rfl, ?_⟩) (HK.out _ HB.out) ?_
                  · intro w' hSw
                    go_simp; (try (intro h8; omega))
                  try simp only [Act.put, List.setIfInBounds_toArray, List.set_cons_zero, List.set_cons_succ]
                  refine wpAnyH_ready (rs := [32]) (by kernel_rfl) (by simp) ?_
                  refine AllReadyH.cons (o := { dst := none, op := .store 29 (.tmp 75) (.tmp 72), type := _, pos := _, after := _, guard := _ }) rfl (fun K hK => ?_) AllReadyH.nil
                  have I7 := HV4.out.box.below HB.out HV4.out.box.lt
                  have b1 : Y9.cell? ⟨r, 2 + k, none⟩ = some (.slice A (s1.que k).length cq) := (HB.out.cell (p := ⟨r, 2 + k, none⟩) l1).trans a1
                  have g1 := I7.frozen (2 + k)
                  have k1 := I7.lt
                  clear I7
                  go_simp
                  refine hK.out _ _ (HK2.out _ HB.out _) (fun _ => ?_)
                  clear hK K b1 g1 k1
                  try simp only [Act.put, List.setIfInBounds_toArray, List.set_cons_zero, List.set_cons_succ]
                  refine wpAnyH_done (by kernel_rfl) ?_ _
                  have HFIN := Lib.hid (room_left HV4.out hk HB.out OA.out)
                  go_wp2_with fail
                  go_roundw
                  case rel =>
                    (try (repeat apply Exists.intro))
                    (try refine ⟨?_, rfl⟩)
                    obtain ⟨R7, hR7, hW7⟩ := HFIN.out
                    refine ⟨k + 1, by omega, by go_num, R7, ?_, HW4.out.trans hW7⟩
                    rw [HE1.out, HS.out]
                    refine hR7.congr (fun i => ?_) (fun i => ?_)
                    · show _ = upd s1.que k _ i
                      rw [HFU.out.1]
                    · show _ = upd s1.los k _ i
                      rw [HFU.out.2]
                      by_cases e : i = k
                      · subst e; rw [upd_same]
                      · rw [upd_other _ _ e]
                  case measure => simp [intOf]; omega
                refine AllReadyH.cons (o := { dst := some 71, op := .buildSlice 29 1 #[(0, .tmp 70)], type := _, pos := _, after := _, guard := _ }) rfl (fun K hK => ?_) AllReadyH.nil
                go_simp
                refine hK.out _ _ (HK.out _ (HB.out.alloc HB.out.size (.cells #[.string cg.us, .int .i64 cg.o1, .int .i64 cg.o2, .int .i64 cg.o3, .int .i64 cg.n1, .int .i64 cg.n2, .int .i64 cg.n3, .int .u64 seq] 54))) (fun _ => ?_)
                clear hK K
                try simp only [Act.put, List.setIfInBounds_toArray, List.set_cons_zero, List.set_cons_succ]
                have HB2 := Lib.hid (HB.out.alloc HB.out.size (.cells #[.string cg.us, .int .i64 cg.o1, .int .i64 cg.o2, .int .i64 cg.o3, .int .i64 cg.n1, .int .i64 cg.n2, .int .i64 cg.n3, .int .u64 seq] 54))
                have sb := HB.out.size
                have OA2 := Lib.hid (OA.out.alloc (.cells #[.string cg.us, .int .i64 cg.o1, .int .i64 cg.o2, .int .i64 cg.o3, .int .i64 cg.n1, .int .i64 cg.n2, .int .i64 cg.n3, .int .u64 seq] 54))
                have IC2 := Lib.hid (Is.new Y1 54 #[.string cg.us, .int .i64 cg.o1, .int .i64 cg.o2, .int .i64 cg.o3, .int .i64 cg.n1, .int .i64 cg.n2, .int .i64 cg.n3, .int .u64 seq] rfl)
                have nac : ga ≠ Y1.heap.size := by omega
                have la2 : ga < (Y1.alloc (.cells #[.string cg.us, .int .i64 cg.o1, .int .i64 cg.o2, .int .i64 cg.o3, .int .i64 cg.n1, .int .i64 cg.n2, .int .i64 cg.n3, .int .u64 seq] 54)).heap.size := by simp; omega
                generalize Y1.alloc (.cells #[.string cg.us, .int .i64 cg.o1, .int .i64 cg.o2, .int .i64 cg.o3, .int .i64 cg.n1, .int .i64 cg.n2, .int .i64 cg.n3, .int .u64 seq] 54) = Y11 at *
                clear HB sb OA la
                generalize Y1.heap.size = gc at *
                have HB := HB2
                clear HB2
                have OA := OA2
                clear OA2
                have IC := IC2
                clear IC2
                have la := la2
                clear la2
                refine wpAnyH_ready (rs := [8]) (by kernel_rfl) (by simp) ?_
                refine AllReadyH.cons (o := { dst := some 52, op := .load 29 (.tmp 51), type := _, pos := _, after := _, guard := _ }) rfl (fun K hK => ?_) AllReadyH.nil
                have cl : Y11.cell? ⟨r, 2 + k, none⟩ = some (.slice A (s1.que k).length cq) := (HB.out.cell (p := ⟨r, 2 + k, none⟩) l1).trans a1
                go_simp
                refine hK.out _ _ (HK.out _ HB.out) (fun _ => ?_)
                clear hK K cl
                try simp only [Act.put, List.setIfInBounds_toArray, List.set_cons_zero, List.set_cons_succ]
                refine wpAnyH_ready (rs := [9]) (by kernel_rfl) (by simp) ?_
                refine AllReadyH.cons (o := { dst := some 53, op := .call { callee := .builtin .append, args := #[.tmp 46, .tmp 52], argTypes := #[29, 29] }, type := _, pos := _, after := _, guard := _ }) rfl (fun K hK => ?_) AllReadyH.nil
                refine Law.step_append_seq _ W4.heap.size 29 rfl (.tmp 46) (.tmp 52) rfl HE.out (.slice (some ⟨ga, 0, none⟩) 0 0) 0 [] (by simp [Act.eval]) (by exact OA.out) 0 W4.heap.size A (s1.que k).length cq (flatE (s1.que k)) (by simp [Act.eval]) (flatE_length _) (HSQ.out.below HB.out) (flatE_one _) (by unfold maxLen; omega) (by omega) HB.out.size ?_
                intro v13 Y13 own grow
                have hb2 : Below W4.heap.size W4 Y13 := HB.out.grown grow HB.out.size (fun g hg => by have h9 : ga = g := Option.some.inj hg; omega)
                refine hK.out _ _ (HK.out _ hb2) (fun _ => ?_)
                clear hK K
                try simp only [Act.put, List.setIfInBounds_toArray, List.set_cons_zero, List.set_cons_succ]
                have OA2 : Hid (Y13.ownsRow W4.heap.size 54 8 v13 (s1.que k).length (flatE (s1.que k))) := by show World.ownsRow _ _ _ _ _ _ _; simpa using own
                have HB2 := Lib.hid hb2
                have IC2 : Hid (Is Y13 gc 54 #[.string cg.us, .int .i64 cg.o1, .int .i64 cg.o2, .int .i64 cg.o3, .int .i64 cg.n1, .int .i64 cg.n2, .int .i64 cg.n3, .int .u64 seq]) := (grow.block gc IC.out.lt (fun h => nac (Option.some.inj h).symm)).trans IC.out
                obtain ⟨A5, c5, rfl, _⟩ := own_shape OA2.out
                clear own grow hb2 HB OA la IC nac
                have HB := HB2
                have OA := OA2
                clear HB2 OA2
                have IC := IC2
                clear IC2
                refine wpAnyH_ready (rs := [28]) (by kernel_rfl) (by simp) ?_
                refine AllReadyH.cons (o := { dst := some 72, op := .call { callee := .builtin .append, args := #[.tmp 53, .tmp 71], argTypes := #[29, 29] }, type := _, pos := _, after := _, guard := _ }) rfl (fun K hK => ?_) AllReadyH.nil
                refine Law.step_append_seq _ W4.heap.size 29 rfl (.tmp 53) (.tmp 71) rfl HE.out (.slice A5 (s1.que k).length c5) (s1.que k).length (flatE (s1.que k)) (by simp [Act.eval]) (by exact OA.out) gc (gc + 1) (some ⟨gc, 0, none⟩) 1 1 (cellsE (cg.ev seq)) (by simp [Act.eval]) rfl (seq_box IC.out) (one_E _) (by unfold maxLen; omega) (by omega) HB.out.size ?_
                intro v14 Y14 own grow
                have hb2 : Below W4.heap.size W4 Y14 := HB.out.grown grow HB.out.size (fun g hg => (OA.out.lt g hg).1)
                refine hK.out _ _ (HK.out _ hb2) (fun _ => ?_)
                clear hK K
                try simp only [Act.put, List.setIfInBounds_toArray, List.set_cons_zero, List.set_cons_succ]
                have OA2 : Hid (Y14.ownsRow W4.heap.size 54 8 v14 ((s1.que k).length + 1) (flatE (s1.que k ++ [cg.ev seq]))) := by show World.ownsRow _ _ _ _ _ _ _; rw [flatE_snoc]; exact own
                have HB2 := Lib.hid hb2
                obtain ⟨A7, c7, rfl, _⟩ := own_shape OA2.out
                clear own grow hb2 HB OA IC
                have HB := HB2
                have OA := OA2
                clear HB2 OA2
                refine wpAnyH_take (i := 31) (oi := { dst := some 75, op := .indexAddr 30 (.tmp 74) (.tmp 45), type := _, pos := _, after := _, guard := _ }) (v := .pointer (some ⟨r, 2 + k, none⟩)) rfl (by kernel_rfl) (by kernel_rfl) (by kernel_rfl) (fun _ _ _ h => h) (Or.inl ⟨by rfl, ?_⟩) (HK.out _ HB.out) ?_
                · intro w' hSw
                  go_simp; (try (intro h8; omega))
                try simp only [Act.put, List.setIfInBounds_toArray, List.set_cons_zero, List.set_cons_succ]
                refine wpAnyH_ready (rs := [32]) (by kernel_rfl) (by simp) ?_
                refine AllReadyH.cons (o := { dst := none, op := .store 29 (.tmp 75) (.tmp 72), type := _, pos := _, after := _, guard := _ }) rfl (fun K hK => ?_) AllReadyH.nil
                have I7 := HV4.out.box.below HB.out HV4.out.box.lt
                have b1 : Y14.cell? ⟨r, 2 + k, none⟩ = some (.slice A (s1.que k).length cq) := (HB.out.cell (p := ⟨r, 2 + k, none⟩) l1).trans a1
                have g1 := I7.frozen (2 + k)
                have k1 := I7.lt
                clear I7
                go_simp
                refine hK.out _ _ (HK2.out _ HB.out _) (fun _ => ?_)
                clear hK K b1 g1 k1
                try simp only [Act.put, List.setIfInBounds_toArray, List.set_cons_zero, List.set_cons_succ]
                refine wpAnyH_done (by kernel_rfl) ?_ _
                have HFIN := Lib.hid (room_left HV4.out hk HB.out OA.out)
                go_wp2_with fail
                go_roundw
                case rel =>
                  (try (repeat apply Exists.intro))
                  (try refine ⟨?_, rfl⟩)
                  obtain ⟨R7, hR7, hW7⟩ := HFIN.out
                  refine ⟨k + 1, by omega, by go_num, R7, ?_, HW4.out.trans hW7⟩
                  rw [HE1.out, HS.out]
                  refine hR7.congr (fun i => ?_) (fun i => ?_)
                  · show _ = upd s1.que k _ i
                    rw [HFU.out.1]
                  · show _ = upd s1.los k _ i
                    rw [HFU.out.2]
                    by_cases e : i = k
                    · subst e; rw [upd_same]
                    · rw [upd_other _ _ e]
                case measure => simp [intOf]; omega
              refine AllReadyH.cons (o := { dst := some 52, op := .load 29 (.tmp 51), type := _, pos := _, after := _, guard := _ }) rfl (fun K hK => ?_) ?_
              · have cl : Y0.cell? ⟨r, 2 + k, none⟩ = some (.slice A (s1.que k).length cq) := (HB.out.cell (p := ⟨r, 2 + k, none⟩) l1).trans a1
                go_simp
                refine hK.out _ _ (HK.out _ HB.out) (fun _ => ?_)
                clear hK K cl
                try simp only [Act.put, List.setIfInBounds_toArray, List.set_cons_zero, List.set_cons_succ]
                refine wpAnyH_ready (rs := [2, 27]) (by kernel_rfl) (by simp) ?_
                refine AllReadyH.cons (o := { dst := some 46, op := .buildSlice 29 0 #[], type := _, pos := _, after := _, guard := _ }) rfl (fun K hK => ?_) ?_
                · go_simp
                  refine hK.out _ _ (HK.out _ (HB.out.alloc HB.out.size (.cells #[] 54))) (fun _ => ?_)
                  clear hK K
                  try simp only [Act.put, List.setIfInBounds_toArray, List.set_cons_zero, List.set_cons_succ]
                  have HB2 := Lib.hid (HB.out.alloc HB.out.size (.cells #[] 54))
                  have sb := HB.out.size
                  have OA2 := Lib.hid (own_emptyR Y0 54 (base := W4.heap.size) sb)
                  have na : W4.heap.size ≤ Y0.heap.size := sb
                  have la2 : Y0.heap.size < (Y0.alloc (.cells #[] 54)).heap.size := by simp
                  generalize Y0.alloc (.cells #[] 54) = Y17 at *
                  clear HB sb
                  generalize Y0.heap.size = ga at *
                  have HB := HB2
                  clear HB2
                  have OA := OA2
                  clear OA2
                  have la := la2
                  clear la2
                  refine wpAnyH_ready (rs := [9, 27]) (by kernel_rfl) (by simp) ?_
                  refine AllReadyH.cons (o := { dst := some 53, op := .call { callee := .builtin .append, args := #[.tmp 46, .tmp 52], argTypes := #[29, 29] }, type := _, pos := _, after := _, guard := _ }) rfl (fun K hK => ?_) ?_
                  · refine Law.step_append_seq _ W4.heap.size 29 rfl (.tmp 46) (.tmp 52) rfl HE.out (.slice (some ⟨ga, 0, none⟩) 0 0) 0 [] (by simp [Act.eval]) (by exact OA.out) 0 W4.heap.size A (s1.que k).length cq (flatE (s1.que k)) (by simp [Act.eval]) (flatE_length _) (HSQ.out.below HB.out) (flatE_one _) (by unfold maxLen; omega) (by omega) HB.out.size ?_
                    intro v18 Y18 own grow
                    have hb2 : Below W4.heap.size W4 Y18 := HB.out.grown grow HB.out.size (fun g hg => by have h9 : ga = g := Option.some.inj hg; omega)
                    refine hK.out _ _ (HK.out _ hb2) (fun _ => ?_)
                    clear hK K
                    try simp only [Act.put, List.setIfInBounds_toArray, List.set_cons_zero, List.set_cons_succ]
                    have OA2 : Hid (Y18.ownsRow W4.heap.size 54 8 v18 (s1.que k).length (flatE (s1.que k))) := by show World.ownsRow _ _ _ _ _ _ _; simpa using own
                    have HB2 := Lib.hid hb2
                    obtain ⟨A5, c5, rfl, _⟩ := own_shape OA2.out
                    clear own grow hb2 HB OA la
                    have HB := HB2
                    have OA := OA2
                    clear HB2 OA2
                    refine wpAnyH_ready (rs := [27]) (by kernel_rfl) (by simp) ?_
                    refine AllReadyH.cons (o := { dst := some 71, op := .buildSlice 29 1 #[(0, .tmp 70)], type := _, pos := _, after := _, guard := _ }) rfl (fun K hK => ?_) AllReadyH.nil
                    go_simp
                    refine hK.out _ _ (HK.out _ (HB.out.alloc HB.out.size (.cells #[.string cg.us, .int .i64 cg.o1, .int .i64 cg.o2, .int .i64 cg.o3, .int .i64 cg.n1, .int .i64 cg.n2, .int .i64 cg.n3, .int .u64 seq] 54))) (fun _ => ?_)
                    clear hK K
                    try simp only [Act.put, List.setIfInBounds_toArray, List.set_cons_zero, List.set_cons_succ]
                    have HB2 := Lib.hid (HB.out.alloc HB.out.size (.cells #[.string cg.us, .int .i64 cg.o1, .int .i64 cg.o2, .int .i64 cg.o3, .int .i64 cg.n1, .int .i64 cg.n2, .int .i64 cg.n3, .int .u64 seq] 54))
                    have sb := HB.out.size
                    have OA2 := Lib.hid (OA.out.alloc (.cells #[.string cg.us, .int .i64 cg.o1, .int .i64 cg.o2, .int .i64 cg.o3, .int .i64 cg.n1, .int .i64 cg.n2, .int .i64 cg.n3, .int .u64 seq] 54))
                    have IC2 := Lib.hid (Is.new Y18 54 #[.string cg.us, .int .i64 cg.o1, .int .i64 cg.o2, .int .i64 cg.o3, .int .i64 cg.n1, .int .i64 cg.n2, .int .i64 cg.n3, .int .u64 seq] rfl)
                    generalize Y18.alloc (.cells #[.string cg.us, .int .i64 cg.o1, .int .i64 cg.o2, .int .i64 cg.o3, .int .i64 cg.n1, .int .i64 cg.n2, .int .i64 cg.n3, .int .u64 seq] 54) = Y19 at *
                    clear HB sb OA
                    generalize Y18.heap.size = gc at *
                    have HB := HB2
                    clear HB2
                    have OA := OA2
                    clear OA2
                    have IC := IC2
                    clear IC2
                    refine wpAnyH_ready (rs := [28]) (by kernel_rfl) (by simp) ?_
                    refine AllReadyH.cons (o := { dst := some 72, op := .call { callee := .builtin .append, args := #[.tmp 53, .tmp 71], argTypes := #[29, 29] }, type := _, pos := _, after := _, guard := _ }) rfl (fun K hK => ?_) AllReadyH.nil
                    refine Law.step_append_seq _ W4.heap.size 29 rfl (.tmp 53) (.tmp 71) rfl HE.out (.slice A5 (s1.que k).length c5) (s1.que k).length (flatE (s1.que k)) (by simp [Act.eval]) (by exact OA.out) gc (gc + 1) (some ⟨gc, 0, none⟩) 1 1 (cellsE (cg.ev seq)) (by simp [Act.eval]) rfl (seq_box IC.out) (one_E _) (by unfold maxLen; omega) (by omega) HB.out.size ?_
                    intro v20 Y20 own grow
                    have hb2 : Below W4.heap.size W4 Y20 := HB.out.grown grow HB.out.size (fun g hg => (OA.out.lt g hg).1)
                    refine hK.out _ _ (HK.out _ hb2) (fun _ => ?_)
                    clear hK K
                    try simp only [Act.put, List.setIfInBounds_toArray, List.set_cons_zero, List.set_cons_succ]
                    have OA2 : Hid (Y20.ownsRow W4.heap.size 54 8 v20 ((s1.que k).length + 1) (flatE (s1.que k ++ [cg.ev seq]))) := by show World.ownsRow _ _ _ _ _ _ _; rw [flatE_snoc]; exact own
                    have HB2 := Lib.hid hb2
                    obtain ⟨A7, c7, rfl, _⟩ := own_shape OA2.out
                    clear own grow hb2 HB OA IC
                    have HB := HB2
                    have OA := OA2
                    clear HB2 OA2
                    refine wpAnyH_take (i := 31) (oi := { dst := some 75, op := .indexAddr 30 (.tmp 74) (.tmp 45), type := _, pos := _, after := _, guard := _ }) (v := .pointer (some ⟨r, 2 + k, none⟩)) rfl (by kernel_rfl) (by kernel_rfl) (by kernel_rfl) (fun _ _ _ h => h) (Or.inl ⟨by rfl, ?_⟩) (HK.out _ HB.out) ?_
                    · intro w' hSw
                      go_simp; (try (intro h8; omega))
                    try simp only [Act.put, List.setIfInBounds_toArray, List.set_cons_zero, List.set_cons_succ]
                    refine wpAnyH_ready (rs := [32]) (by kernel_rfl) (by simp) ?_
                    refine AllReadyH.cons (o := { dst := none, op := .store 29 (.tmp 75) (.tmp 72), type := _, pos := _, after := _, guard := _ }) rfl (fun K hK => ?_) AllReadyH.nil
                    have I7 := HV4.out.box.below HB.out HV4.out.box.lt
                    have b1 : Y20.cell? ⟨r, 2 + k, none⟩ = some (.slice A (s1.que k).length cq) := (HB.out.cell (p := ⟨r, 2 + k, none⟩) l1).trans a1
                    have g1 := I7.frozen (2 + k)
                    have k1 := I7.lt
                    clear I7
                    go_simp
                    refine hK.out _ _ (HK2.out _ HB.out _) (fun _ => ?_)
                    clear hK K b1 g1 k1
                    try simp only [Act.put, List.setIfInBounds_toArray, List.set_cons_zero, List.set_cons_succ]
                    refine wpAnyH_done (by kernel_rfl) ?_ _
                    have HFIN := Lib.hid (room_left HV4.out hk HB.out OA.out)
                    go_wp2_with fail
                    go_roundw
                    case rel =>
                      (try (repeat apply Exists.intro))
                      (try refine ⟨?_, rfl⟩)
                      obtain ⟨R7, hR7, hW7⟩ := HFIN.out
                      refine ⟨k + 1, by omega, by go_num, R7, ?_, HW4.out.trans hW7⟩
                      rw [HE1.out, HS.out]
                      refine hR7.congr (fun i => ?_) (fun i => ?_)
                      · show _ = upd s1.que k _ i
                        rw [HFU.out.1]
                      · show _ = upd s1.los k _ i
                        rw [HFU.out.2]
                        by_cases e : i = k
                        · subst e; rw [upd_same]
                        · rw [upd_other _ _ e]
                    case measure => simp [intOf]; omega
                  refine AllReadyH.cons (o := { dst := some 71, op := .buildSlice 29 1 #[(0, .tmp 70)], type := _, pos := _, after := _, guard := _ }) rfl (fun K hK => ?_) AllReadyH.nil
                  go_simp
                  refine hK.out _ _ (HK.out _ (HB.out.alloc HB.out.size (.cells #[.string cg.us, .int .i64 cg.o1, .int .i64 cg.o2, .int .i64 cg.o3, .int .i64 cg.n1, .int .i64 cg.n2, .int .i64 cg.n3, .int .u64 seq] 54))) (fun _ => ?_)
                  clear hK K
                  try simp only [Act.put, List.setIfInBounds_toArray, List.set_cons_zero, List.set_cons_succ]
                  have HB2 := Lib.hid (HB.out.alloc HB.out.size (.cells #[.string cg.us, .int .i64 cg.o1, .int .i64 cg.o2, .int .i64 cg.o3, .int .i64 cg.n1, .int .i64 cg.n2, .int .i64 cg.n3, .int .u64 seq] 54))
                  have sb := HB.out.size
                  have OA2 := Lib.hid (OA.out.alloc (.cells #[.string cg.us, .int .i64 cg.o1, .int .i64 cg.o2, .int .i64 cg.o3, .int .i64 cg.n1, .int .i64 cg.n2, .int .i64 cg.n3, .int .u64 seq] 54))
                  have IC2 := Lib.hid (Is.new Y17 54 #[.string cg.us, .int .i64 cg.o1, .int .i64 cg.o2, .int .i64 cg.o3, .int .i64 cg.n1, .int .i64 cg.n2, .int .i64 cg.n3, .int .u64 seq] rfl)
                  have nac : ga ≠ Y17.heap.size := by omega
                  have la2 : ga < (Y17.alloc (.cells #[.string cg.us, .int .i64 cg.o1, .int .i64 cg.o2, .int .i64 cg.o3, .int .i64 cg.n1, .int .i64 cg.n2, .int .i64 cg.n3, .int .u64 seq] 54)).heap.size := by simp; omega
                  generalize Y17.alloc (.cells #[.string cg.us, .int .i64 cg.o1, .int .i64 cg.o2, .int .i64 cg.o3, .int .i64 cg.n1, .int .i64 cg.n2, .int .i64 cg.n3, .int .u64 seq] 54) = Y22 at *
                  clear HB sb OA la
                  generalize Y17.heap.size = gc at *
                  have HB := HB2
                  clear HB2
                  have OA := OA2
                  clear OA2
                  have IC := IC2
                  clear IC2
                  have la := la2
                  clear la2
                  refine wpAnyH_ready (rs := [9]) (by kernel_rfl) (by simp) ?_
                  refine AllReadyH.cons (o := { dst := some 53, op := .call { callee := .builtin .append, args := #[.tmp 46, .tmp 52], argTypes := #[29, 29] }, type := _, pos := _, after := _, guard := _ }) rfl (fun K hK => ?_) AllReadyH.nil
                  refine Law.step_append_seq _ W4.heap.size 29 rfl (.tmp 46) (.tmp 52) rfl HE.out (.slice (some ⟨ga, 0, none⟩) 0 0) 0 [] (by simp [Act.eval]) (by exact OA.out) 0 W4.heap.size A (s1.que k).length cq (flatE (s1.que k)) (by simp [Act.eval]) (flatE_length _) (HSQ.out.below HB.out) (flatE_one _) (by unfold maxLen; omega) (by omega) HB.out.size ?_
                  intro v23 Y23 own grow
                  have hb2 : Below W4.heap.size W4 Y23 := HB.out.grown grow HB.out.size (fun g hg => by have h9 : ga = g := Option.some.inj hg; omega)
                  refine hK.out _ _ (HK.out _ hb2) (fun _ => ?_)
                  clear hK K
                  try simp only [Act.put, List.setIfInBounds_toArray, List.set_cons_zero, List.set_cons_succ]
                  have OA2 : Hid (Y23.ownsRow W4.heap.size 54 8 v23 (s1.que k).length (flatE (s1.que k))) := by show World.ownsRow _ _ _ _ _ _ _; simpa using own
                  have HB2 := Lib.hid hb2
                  have IC2 : Hid (Is Y23 gc 54 #[.string cg.us, .int .i64 cg.o1, .int .i64 cg.o2, .int .i64 cg.o3, .int .i64 cg.n1, .int .i64 cg.n2, .int .i64 cg.n3, .int .u64 seq]) := (grow.block gc IC.out.lt (fun h => nac (Option.some.inj h).symm)).trans IC.out
                  obtain ⟨A5, c5, rfl, _⟩ := own_shape OA2.out
                  clear own grow hb2 HB OA la IC nac
                  have HB := HB2
                  have OA := OA2
                  clear HB2 OA2
                  have IC := IC2
                  clear IC2
                  refine wpAnyH_ready (rs := [28]) (by kernel_rfl) (by simp) ?_
                  refine AllReadyH.cons (o := { dst := some 72, op := .call { callee := .builtin .append, args := #[.tmp 53, .tmp 71], argTypes := #[29, 29] }, type := _, pos := _, after := _, guard := _ }) rfl (fun K hK => ?_) AllReadyH.nil
                  refine Law.step_append_seq _ W4.heap.size 29 rfl (.tmp 53) (.tmp 71) rfl HE.out (.slice A5 (s1.que k).length c5) (s1.que k).length (flatE (s1.que k)) (by simp [Act.eval]) (by exact OA.out) gc (gc + 1) (some ⟨gc, 0, none⟩) 1 1 (cellsE (cg.ev seq)) (by simp [Act.eval]) rfl (seq_box IC.out) (one_E _) (by unfold maxLen; omega) (by omega) HB.out.size ?_
                  intro v24 Y24 own grow
                  have hb2 : Below W4.heap.size W4 Y24 := HB.out.grown grow HB.out.size (fun g hg => (OA.out.lt g hg).1)
                  refine hK.out _ _ (HK.out _ hb2) (fun _ => ?_)
                  clear hK K
                  try simp only [Act.put, List.setIfInBounds_toArray, List.set_cons_zero, List.set_cons_succ]
                  have OA2 : Hid (Y24.ownsRow W4.heap.size 54 8 v24 ((s1.que k).length + 1) (flatE (s1.que k ++ [cg.ev seq]))) := by show World.ownsRow _ _ _ _ _ _ _; rw [flatE_snoc]; exact own
                  have HB2 := Lib.hid hb2
                  obtain ⟨A7, c7, rfl, _⟩ := own_shape OA2.out
                  clear own grow hb2 HB OA IC
                  have HB := HB2
                  have OA := OA2
                  clear HB2 OA2
                  refine wpAnyH_take (i := 31) (oi := { dst := some 75, op := .indexAddr 30 (.tmp 74) (.tmp 45), type := _, pos := _, after := _, guard := _ }) (v := .pointer (some ⟨r, 2 + k, none⟩)) rfl (by kernel_rfl) (by kernel_rfl) (by kernel_rfl) (fun _ _ _ h => h) (Or.inl ⟨by rfl, ?_⟩) (HK.out _ HB.out) ?_
                  · intro w' hSw
                    go_simp; (try (intro h8; omega))
                  try simp only [Act.put, List.setIfInBounds_toArray, List.set_cons_zero, List.set_cons_succ]
                  refine wpAnyH_ready (rs := [32]) (by kernel_rfl) (by simp) ?_
                  refine AllReadyH.cons (o := { dst := none, op := .store 29 (.tmp 75) (.tmp 72), type := _, pos := _, after := _, guard := _ }) rfl (fun K hK => ?_) AllReadyH.nil
                  have I7 := HV4.out.box.below HB.out HV4.out.box.lt
                  have b1 : Y24.cell? ⟨r, 2 + k, none⟩ = some (.slice A (s1.que k).length cq) := (HB.out.cell (p := ⟨r, 2 + k, none⟩) l1).trans a1
                  have g1 := I7.frozen (2 + k)
                  have k1 := I7.lt
                  clear I7
                  go_simp
                  refine hK.out _ _ (HK2.out _ HB.out _) (fun _ => ?_)
                  clear hK K b1 g1 k1
                  try simp only [Act.put, List.setIfInBounds_toArray, List.set_cons_zero, List.set_cons_succ]
                  refine wpAnyH_done (by kernel_rfl) ?_ _
                  have HFIN := Lib.hid (room_left HV4.out hk HB.out OA.out)
                  go_wp2_with fail
                  go_roundw
                  case rel =>
                    (try (repeat apply Exists.intro))
                    (try refine ⟨?_, rfl⟩)
                    obtain ⟨R7, hR7, hW7⟩ := HFIN.out
                    refine ⟨k + 1, by omega, by go_num, R7, ?_, HW4.out.trans hW7⟩
                    rw [HE1.out, HS.out]
                    refine hR7.congr (fun i => ?_) (fun i => ?_)
                    · show _ = upd s1.que k _ i
                      rw [HFU.out.1]
                    · show _ = upd s1.los k _ i
                      rw [HFU.out.2]
                      by_cases e : i = k
                      · subst e; rw [upd_same]
                      · rw [upd_other _ _ e]
                  case measure => simp [intOf]; omega
                refine AllReadyH.cons (o := { dst := some 71, op := .buildSlice 29 1 #[(0, .tmp 70)], type := _, pos := _, after := _, guard := _ }) rfl (fun K hK => ?_) AllReadyH.nil
                go_simp
                refine hK.out _ _ (HK.out _ (HB.out.alloc HB.out.size (.cells #[.string cg.us, .int .i64 cg.o1, .int .i64 cg.o2, .int .i64 cg.o3, .int .i64 cg.n1, .int .i64 cg.n2, .int .i64 cg.n3, .int .u64 seq] 54))) (fun _ => ?_)
                clear hK K
                try simp only [Act.put, List.setIfInBounds_toArray, List.set_cons_zero, List.set_cons_succ]
                have HB2 := Lib.hid (HB.out.alloc HB.out.size (.cells #[.string cg.us, .int .i64 cg.o1, .int .i64 cg.o2, .int .i64 cg.o3, .int .i64 cg.n1, .int .i64 cg.n2, .int .i64 cg.n3, .int .u64 seq] 54))
                have sb := HB.out.size
                have IC2 := Lib.hid (Is.new Y0 54 #[.string cg.us, .int .i64 cg.o1, .int .i64 cg.o2, .int .i64 cg.o3, .int .i64 cg.n1, .int .i64 cg.n2, .int .i64 cg.n3, .int .u64 seq] rfl)
                generalize Y0.alloc (.cells #[.string cg.us, .int .i64 cg.o1, .int .i64 cg.o2, .int .i64 cg.o3, .int .i64 cg.n1, .int .i64 cg.n2, .int .i64 cg.n3, .int .u64 seq] 54) = Y26 at *
                clear HB sb
                generalize Y0.heap.size = gc at *
                have HB := HB2
                clear HB2
                have IC := IC2
                clear IC2
                refine wpAnyH_ready (rs := [2]) (by kernel_rfl) (by simp) ?_
                refine AllReadyH.cons (o := { dst := some 46, op := .buildSlice 29 0 #[], type := _, pos := _, after := _, guard := _ }) rfl (fun K hK => ?_) AllReadyH.nil
                go_simp
                refine hK.out _ _ (HK.out _ (HB.out.alloc HB.out.size (.cells #[] 54))) (fun _ => ?_)
                clear hK K
                try simp only [Act.put, List.setIfInBounds_toArray, List.set_cons_zero, List.set_cons_succ]
                have HB2 := Lib.hid (HB.out.alloc HB.out.size (.cells #[] 54))
                have sb := HB.out.size
                have IC2 := Lib.hid (IC.out.alloc (.cells #[] 54))
                have lc := IC.out.lt
                have OA2 := Lib.hid (own_emptyR Y26 54 (base := W4.heap.size) sb)
                have na : W4.heap.size ≤ Y26.heap.size := sb
                have nac : Y26.heap.size ≠ gc := by omega
                have la2 : Y26.heap.size < (Y26.alloc (.cells #[] 54)).heap.size := by simp
                generalize Y26.alloc (.cells #[] 54) = Y27 at *
                clear HB sb IC lc
                generalize Y26.heap.size = ga at *
                have HB := HB2
                clear HB2
                have OA := OA2
                clear OA2
                have IC := IC2
                clear IC2
                have la := la2
                clear la2
                refine wpAnyH_ready (rs := [9]) (by kernel_rfl) (by simp) ?_
                refine AllReadyH.cons (o := { dst := some 53, op := .call { callee := .builtin .append, args := #[.tmp 46, .tmp 52], argTypes := #[29, 29] }, type := _, pos := _, after := _, guard := _ }) rfl (fun K hK => ?_) AllReadyH.nil
                refine Law.step_append_seq _ W4.heap.size 29 rfl (.tmp 46) (.tmp 52) rfl HE.out (.slice (some ⟨ga, 0, none⟩) 0 0) 0 [] (by simp [Act.eval]) (by exact OA.out) 0 W4.heap.size A (s1.que k).length cq (flatE (s1.que k)) (by simp [Act.eval]) (flatE_length _) (HSQ.out.below HB.out) (flatE_one _) (by unfold maxLen; omega) (by omega) HB.out.size ?_
                intro v28 Y28 own grow
                have hb2 : Below W4.heap.size W4 Y28 := HB.out.grown grow HB.out.size (fun g hg => by have h9 : ga = g := Option.some.inj hg; omega)
                refine hK.out _ _ (HK.out _ hb2) (fun _ => ?_)
                clear hK K
                try simp only [Act.put, List.setIfInBounds_toArray, List.set_cons_zero, List.set_cons_succ]
                have OA2 : Hid (Y28.ownsRow W4.heap.size 54 8 v28 (s1.que k).length (flatE (s1.que k))) := by show World.ownsRow _ _ _ _ _ _ _; simpa using own
                have HB2 := Lib.hid hb2
                have IC2 : Hid (Is Y28 gc 54 #[.string cg.us, .int .i64 cg.o1, .int .i64 cg.o2, .int .i64 cg.o3, .int .i64 cg.n1, .int .i64 cg.n2, .int .i64 cg.n3, .int .u64 seq]) := (grow.block gc IC.out.lt (fun h => nac (Option.some.inj h).symm)).trans IC.out
                obtain ⟨A5, c5, rfl, _⟩ := own_shape OA2.out
                clear own grow hb2 HB OA la IC nac
                have HB := HB2
                have OA := OA2
                clear HB2 OA2
                have IC := IC2
                clear IC2
                refine wpAnyH_ready (rs := [28]) (by kernel_rfl) (by simp) ?_
                refine AllReadyH.cons (o := { dst := some 72, op := .call { callee := .builtin .append, args := #[.tmp 53, .tmp 71], argTypes := #[29, 29] }, type := _, pos := _, after := _, guard := _ }) rfl (fun K hK => ?_) AllReadyH.nil
                refine Law.step_append_seq _ W4.heap.size 29 rfl (.tmp 53) (.tmp 71) rfl HE.out (.slice A5 (s1.que k).length c5) (s1.que k).length (flatE (s1.que k)) (by simp [Act.eval]) (by exact OA.out) gc (gc + 1) (some ⟨gc, 0, none⟩) 1 1 (cellsE (cg.ev seq)) (by simp [Act.eval]) rfl (seq_box IC.out) (one_E _) (by unfold maxLen; omega) (by omega) HB.out.size ?_
                intro v29 Y29 own grow
                have hb2 : Below W4.heap.size W4 Y29 := HB.out.grown grow HB.out.size (fun g hg => (OA.out.lt g hg).1)
                refine hK.out _ _ (HK.out _ hb2) (fun _ => ?_)
                clear hK K
                try simp only [Act.put, List.setIfInBounds_toArray, List.set_cons_zero, List.set_cons_succ]
                have OA2 : Hid (Y29.ownsRow W4.heap.size 54 8 v29 ((s1.que k).length + 1) (flatE (s1.que k ++ [cg.ev seq]))) := by show World.ownsRow _ _ _ _ _ _ _; rw [flatE_snoc]; exact own
                have HB2 := Lib.hid hb2
                obtain ⟨A7, c7, rfl, _⟩ := own_shape OA2.out
                clear own grow hb2 HB OA IC
                have HB := HB2
                have OA := OA2
                clear HB2 OA2
                refine wpAnyH_take (i := 31) (oi := { dst := some 75, op := .indexAddr 30 (.tmp 74) (.tmp 45), type := _, pos := _, after := _, guard := _ }) (v := .pointer (some ⟨r, 2 + k, none⟩)) rfl (by kernel_rfl) (by kernel_rfl) (by kernel_rfl) (fun _ _ _ h => h) (Or.inl ⟨by rfl, ?_⟩) (HK.out _ HB.out) ?_
                · intro w' hSw
                  go_simp; (try (intro h8; omega))
                try simp only [Act.put, List.setIfInBounds_toArray, List.set_cons_zero, List.set_cons_succ]
                refine wpAnyH_ready (rs := [32]) (by kernel_rfl) (by simp) ?_
                refine AllReadyH.cons (o := { dst := none, op := .store 29 (.tmp 75) (.tmp 72), type := _, pos := _, after := _, guard := _ }) rfl (fun K hK => ?_) AllReadyH.nil
                have I7 := HV4.out.box.below HB.out HV4.out.box.lt
                have b1 : Y29.cell? ⟨r, 2 + k, none⟩ = some (.slice A (s1.que k).length cq) := (HB.out.cell (p := ⟨r, 2 + k, none⟩) l1).trans a1
                have g1 := I7.frozen (2 + k)
                have k1 := I7.lt
                clear I7
                go_simp
                refine hK.out _ _ (HK2.out _ HB.out _) (fun _ => ?_)
                clear hK K b1 g1 k1
                try simp only [Act.put, List.setIfInBounds_toArray, List.set_cons_zero, List.set_cons_succ]
                refine wpAnyH_done (by kernel_rfl) ?_ _
                have HFIN := Lib.hid (room_left HV4.out hk HB.out OA.out)
                go_wp2_with fail
                go_roundw
                case rel =>
                  (try (repeat apply Exists.intro))
                  (try refine ⟨?_, rfl⟩)
                  obtain ⟨R7, hR7, hW7⟩ := HFIN.out
                  refine ⟨k + 1, by omega, by go_num, R7, ?_, HW4.out.trans hW7⟩
                  rw [HE1.out, HS.out]
                  refine hR7.congr (fun i => ?_) (fun i => ?_)
                  · show _ = upd s1.que k _ i
                    rw [HFU.out.1]
                  · show _ = upd s1.los k _ i
                    rw [HFU.out.2]
                    by_cases e : i = k
                    · subst e; rw [upd_same]
                    · rw [upd_other _ _ e]
                case measure => simp [intOf]; omega
              refine AllReadyH.cons (o := { dst := some 71, op := .buildSlice 29 1 #[(0, .tmp 70)], type := _, pos := _, after := _, guard := _ }) rfl (fun K hK => ?_) AllReadyH.nil
              go_simp
              refine hK.out _ _ (HK.out _ (HB.out.alloc HB.out.size (.cells #[.string cg.us, .int .i64 cg.o1, .int .i64 cg.o2, .int .i64 cg.o3, .int .i64 cg.n1, .int .i64 cg.n2, .int .i64 cg.n3, .int .u64 seq] 54))) (fun _ => ?_)
              clear hK K
              try simp only [Act.put, List.setIfInBounds_toArray, List.set_cons_zero, List.set_cons_succ]
              have HB2 := Lib.hid (HB.out.alloc HB.out.size (.cells #[.string cg.us, .int .i64 cg.o1, .int .i64 cg.o2, .int .i64 cg.o3, .int .i64 cg.n1, .int .i64 cg.n2, .int .i64 cg.n3, .int .u64 seq] 54))
              have sb := HB.out.size
              have IC2 := Lib.hid (Is.new Y0 54 #[.string cg.us, .int .i64 cg.o1, .int .i64 cg.o2, .int .i64 cg.o3, .int .i64 cg.n1, .int .i64 cg.n2, .int .i64 cg.n3, .int .u64 seq] rfl)
              generalize Y0.alloc (.cells #[.string cg.us, .int .i64 cg.o1, .int .i64 cg.o2, .int .i64 cg.o3, .int .i64 cg.n1, .int .i64 cg.n2, .int .i64 cg.n3, .int .u64 seq] 54) = Y31 at *
              clear HB sb
              generalize Y0.heap.size = gc at *
              have HB := HB2
              clear HB2
              have IC := IC2
              clear IC2
              refine wpAnyH_ready (rs := [2, 8]) (by kernel_rfl) (by simp) ?_
              refine AllReadyH.cons (o := { dst := some 46, op := .buildSlice 29 0 #[], type := _, pos := _, after := _, guard := _ }) rfl (fun K hK => ?_) ?_
              · go_simp
                refine hK.out _ _ (HK.out _ (HB.out.alloc HB.out.size (.cells #[] 54))) (fun _ => ?_)
                clear hK K
                try simp only [Act.put, List.setIfInBounds_toArray, List.set_cons_zero, List.set_cons_succ]
                have HB2 := Lib.hid (HB.out.alloc HB.out.size (.cells #[] 54))
                have sb := HB.out.size
                have IC2 := Lib.hid (IC.out.alloc (.cells #[] 54))
                have lc := IC.out.lt
                have OA2 := Lib.hid (own_emptyR Y31 54 (base := W4.heap.size) sb)
                have na : W4.heap.size ≤ Y31.heap.size := sb
                have nac : Y31.heap.size ≠ gc := by omega
                have la2 : Y31.heap.size < (Y31.alloc (.cells #[] 54)).heap.size := by simp
                generalize Y31.alloc (.cells #[] 54) = Y32 at *
                clear HB sb IC lc
                generalize Y31.heap.size = ga at *
                have HB := HB2
                clear HB2
                have OA := OA2
                clear OA2
                have IC := IC2
                clear IC2
                have la := la2
                clear la2
                refine wpAnyH_ready (rs := [8]) (by kernel_rfl) (by simp) ?_
                refine AllReadyH.cons (o := { dst := some 52, op := .load 29 (.tmp 51), type := _, pos := _, after := _, guard := _ }) rfl (fun K hK => ?_) AllReadyH.nil
                have cl : Y32.cell? ⟨r, 2 + k, none⟩ = some (.slice A (s1.que k).length cq) := (HB.out.cell (p := ⟨r, 2 + k, none⟩) l1).trans a1
                go_simp
                refine hK.out _ _ (HK.out _ HB.out) (fun _ => ?_)
                clear hK K cl
                try simp only [Act.put, List.setIfInBounds_toArray, List.set_cons_zero, List.set_cons_succ]
                refine wpAnyH_ready (rs := [9]) (by kernel_rfl) (by simp) ?_
                refine AllReadyH.cons (o := { dst := some 53, op := .call { callee := .builtin .append, args := #[.tmp 46, .tmp 52], argTypes := #[29, 29] }, type := _, pos := _, after := _, guard := _ }) rfl (fun K hK => ?_) AllReadyH.nil
                refine Law.step_append_seq _ W4.heap.size 29 rfl (.tmp 46) (.tmp 52) rfl HE.out (.slice (some ⟨ga, 0, none⟩) 0 0) 0 [] (by simp [Act.eval]) (by exact OA.out) 0 W4.heap.size A (s1.que k).length cq (flatE (s1.que k)) (by simp [Act.eval]) (flatE_length _) (HSQ.out.below HB.out) (flatE_one _) (by unfold maxLen; omega) (by omega) HB.out.size ?_
                intro v34 Y34 own grow
                have hb2 : Below W4.heap.size W4 Y34 := HB.out.grown grow HB.out.size (fun g hg => by have h9 : ga = g := Option.some.inj hg; omega)
                refine hK.out _ _ (HK.out _ hb2) (fun _ => ?_)
                clear hK K
                try simp only [Act.put, List.setIfInBounds_toArray, List.set_cons_zero, List.set_cons_succ]
                have OA2 : Hid (Y34.ownsRow W4.heap.size 54 8 v34 (s1.que k).length (flatE (s1.que k))) := by show World.ownsRow _ _ _ _ _ _ _; simpa using own
                have HB2 := Lib.hid hb2
                have IC2 : Hid (Is Y34 gc 54 #[.string cg.us, .int .i64 cg.o1, .int .i64 cg.o2, .int .i64 cg.o3, .int .i64 cg.n1, .int .i64 cg.n2, .int .i64 cg.n3, .int .u64 seq]) := (grow.block gc IC.out.lt (fun h => nac (Option.some.inj h).symm)).trans IC.out
                obtain ⟨A5, c5, rfl, _⟩ := own_shape OA2.out
                clear own grow hb2 HB OA la IC nac
                have HB := HB2
                have OA := OA2
                clear HB2 OA2
                have IC := IC2
                clear IC2
                refine wpAnyH_ready (rs := [28]) (by kernel_rfl) (by simp) ?_
                refine AllReadyH.cons (o := { dst := some 72, op := .call { callee := .builtin .append, args := #[.tmp 53, .tmp 71], argTypes := #[29, 29] }, type := _, pos := _, after := _, guard := _ }) rfl (fun K hK => ?_) AllReadyH.nil
                refine Law.step_append_seq _ W4.heap.size 29 rfl (.tmp 53) (.tmp 71) rfl HE.out (.slice A5 (s1.que k).length c5) (s1.que k).length (flatE (s1.que k)) (by simp [Act.eval]) (by exact OA.out) gc (gc + 1) (some ⟨gc, 0, none⟩) 1 1 (cellsE (cg.ev seq)) (by simp [Act.eval]) rfl (seq_box IC.out) (one_E _) (by unfold maxLen; omega) (by omega) HB.out.size ?_
                intro v35 Y35 own grow
                have hb2 : Below W4.heap.size W4 Y35 := HB.out.grown grow HB.out.size (fun g hg => (OA.out.lt g hg).1)
                refine hK.out _ _ (HK.out _ hb2) (fun _ => ?_)
                clear hK K
                try simp only [Act.put, List.setIfInBounds_toArray, List.set_cons_zero, List.set_cons_succ]
                have OA2 : Hid (Y35.ownsRow W4.heap.size 54 8 v35 ((s1.que k).length + 1) (flatE (s1.que k ++ [cg.ev seq]))) := by show World.ownsRow _ _ _ _ _ _ _; rw [flatE_snoc]; exact own
                have HB2 := Lib.hid hb2
                obtain ⟨A7, c7, rfl, _⟩ := own_shape OA2.out
                clear own grow hb2 HB OA IC
                have HB := HB2
                have OA := OA2
                clear HB2 OA2
                refine wpAnyH_take (i := 31) (oi := { dst := some 75, op := .indexAddr 30 (.tmp 74) (.tmp 45), type := _, pos := _, after := _, guard := _ }) (v := .pointer (some ⟨r, 2 + k, none⟩)) rfl (by kernel_rfl) (by kernel_rfl) (by kernel_rfl) (fun _ _ _ h => h) (Or.inl ⟨by rfl, ?_⟩) (HK.out _ HB.out) ?_
                · intro w' hSw
                  go_simp; (try (intro h8; omega))
                try simp only [Act.put, List.setIfInBounds_toArray, List.set_cons_zero, List.set_cons_succ]
                refine wpAnyH_ready (rs := [32]) (by kernel_rfl) (by simp) ?_
                refine AllReadyH.cons (o := { dst := none, op := .store 29 (.tmp 75) (.tmp 72), type := _, pos := _, after := _, guard := _ }) rfl (fun K hK => ?_) AllReadyH.nil
                have I7 := HV4.out.box.below HB.out HV4.out.box.lt
                have b1 : Y35.cell? ⟨r, 2 + k, none⟩ = some (.slice A (s1.que k).length cq) := (HB.out.cell (p := ⟨r, 2 + k, none⟩) l1).trans a1
                have g1 := I7.frozen (2 + k)
                have k1 := I7.lt
                clear I7
                go_simp
                refine hK.out _ _ (HK2.out _ HB.out _) (fun _ => ?_)
                clear hK K b1 g1 k1
                try simp only [Act.put, List.setIfInBounds_toArray, List.set_cons_zero, List.set_cons_succ]
                refine wpAnyH_done (by kernel_rfl) ?_ _
                have HFIN := Lib.hid (room_left HV4.out hk HB.out OA.out)
                go_wp2_with fail
                go_roundw
                case rel =>
                  (try (repeat apply Exists.intro))
                  (try refine ⟨?_, rfl⟩)
                  obtain ⟨R7, hR7, hW7⟩ := HFIN.out
                  refine ⟨k + 1, by omega, by go_num, R7, ?_, HW4.out.trans hW7⟩
                  rw [HE1.out, HS.out]
                  refine hR7.congr (fun i => ?_) (fun i => ?_)
                  · show _ = upd s1.que k _ i
                    rw [HFU.out.1]
                  · show _ = upd s1.los k _ i
                    rw [HFU.out.2]
                    by_cases e : i = k
                    · subst e; rw [upd_same]
                    · rw [upd_other _ _ e]
                case measure => simp [intOf]; omega
              refine AllReadyH.cons (o := { dst := some 52, op := .load 29 (.tmp 51), type := _, pos := _, after := _, guard := _ }) rfl (fun K hK => ?_) AllReadyH.nil
              have cl : Y31.cell? ⟨r, 2 + k, none⟩ = some (.slice A (s1.que k).length cq) := (HB.out.cell (p := ⟨r, 2 + k, none⟩) l1).trans a1
              go_simp
              refine hK.out _ _ (HK.out _ HB.out) (fun _ => ?_)
              clear hK K cl
              try simp only [Act.put, List.setIfInBounds_toArray, List.set_cons_zero, List.set_cons_succ]
              refine wpAnyH_ready (rs := [2]) (by kernel_rfl) (by simp) ?_
              refine AllReadyH.cons (o := { dst := some 46, op := .buildSlice 29 0 #[], type := _, pos := _, after := _, guard := _ }) rfl (fun K hK => ?_) AllReadyH.nil
              go_simp
              refine hK.out _ _ (HK.out _ (HB.out.alloc HB.out.size (.cells #[] 54))) (fun _ => ?_)
              clear hK K
              try simp only [Act.put, List.setIfInBounds_toArray, List.set_cons_zero, List.set_cons_succ]
              have HB2 := Lib.hid (HB.out.alloc HB.out.size (.cells #[] 54))
              have sb := HB.out.size
              have IC2 := Lib.hid (IC.out.alloc (.cells #[] 54))
              have lc := IC.out.lt
              have OA2 := Lib.hid (own_emptyR Y31 54 (base := W4.heap.size) sb)
              have na : W4.heap.size ≤ Y31.heap.size := sb
              have nac : Y31.heap.size ≠ gc := by omega
              have la2 : Y31.heap.size < (Y31.alloc (.cells #[] 54)).heap.size := by simp
              generalize Y31.alloc (.cells #[] 54) = Y38 at *
              clear HB sb IC lc
              generalize Y31.heap.size = ga at *
              have HB := HB2
              clear HB2
              have OA := OA2
              clear OA2
              have IC := IC2
              clear IC2
              have la := la2
              clear la2
              refine wpAnyH_ready (rs := [9]) (by kernel_rfl) (by simp) ?_
              refine AllReadyH.cons (o := { dst := some 53, op := .call { callee := .builtin .append, args := #[.tmp 46, .tmp 52], argTypes := #[29, 29] }, type := _, pos := _, after := _, guard := _ }) rfl (fun K hK => ?_) AllReadyH.nil
              refine Law.step_append_seq _ W4.heap.size 29 rfl (.tmp 46) (.tmp 52) rfl HE.out (.slice (some ⟨ga, 0, none⟩) 0 0) 0 [] (by simp [Act.eval]) (by exact OA.out) 0 W4.heap.size A (s1.que k).length cq (flatE (s1.que k)) (by simp [Act.eval]) (flatE_length _) (HSQ.out.below HB.out) (flatE_one _) (by unfold maxLen; omega) (by omega) HB.out.size ?_
              intro v39 Y39 own grow
              have hb2 : Below W4.heap.size W4 Y39 := HB.out.grown grow HB.out.size (fun g hg => by have h9 : ga = g := Option.some.inj hg; omega)
              refine hK.out _ _ (HK.out _ hb2) (fun _ => ?_)
              clear hK K
              try simp only [Act.put, List.setIfInBounds_toArray, List.set_cons_zero, List.set_cons_succ]
              have OA2 : Hid (Y39.ownsRow W4.heap.size 54 8 v39 (s1.que k).length (flatE (s1.que k))) := by show World.ownsRow _ _ _ _ _ _ _; simpa using own
              have HB2 := Lib.hid hb2
              have IC2 : Hid (Is Y39 gc 54 #[.string cg.us, .int .i64 cg.o1, .int .i64 cg.o2, .int .i64 cg.o3, .int .i64 cg.n1, .int .i64 cg.n2, .int .i64 cg.n3, .int .u64 seq]) := (grow.block gc IC.out.lt (fun h => nac (Option.some.inj h).symm)).trans IC.out
              obtain ⟨A5, c5, rfl, _⟩ := own_shape OA2.out
              clear own grow hb2 HB OA la IC nac
              have HB := HB2
              have OA := OA2
              clear HB2 OA2
              have IC := IC2
              clear IC2
              refine wpAnyH_ready (rs := [28]) (by kernel_rfl) (by simp) ?_
              refine AllReadyH.cons (o := { dst := some 72, op := .call { callee := .builtin .append, args := #[.tmp 53, .tmp 71], argTypes := #[29, 29] }, type := _, pos := _, after := _, guard := _ }) rfl (fun K hK => ?_) AllReadyH.nil
              refine Law.step_append_seq _ W4.heap.size 29 rfl (.tmp 53) (.tmp 71) rfl HE.out (.slice A5 (s1.que k).length c5) (s1.que k).length (flatE (s1.que k)) (by simp [Act.eval]) (by exact OA.out) gc (gc + 1) (some ⟨gc, 0, none⟩) 1 1 (cellsE (cg.ev seq)) (by simp [Act.eval]) rfl (seq_box IC.out) (one_E _) (by unfold maxLen; omega) (by omega) HB.out.size ?_
              intro v40 Y40 own grow
              have hb2 : Below W4.heap.size W4 Y40 := HB.out.grown grow HB.out.size (fun g hg => (OA.out.lt g hg).1)
              refine hK.out _ _ (HK.out _ hb2) (fun _ => ?_)
              clear hK K
              try simp only [Act.put, List.setIfInBounds_toArray, List.set_cons_zero, List.set_cons_succ]
              have OA2 : Hid (Y40.ownsRow W4.heap.size 54 8 v40 ((s1.que k).length + 1) (flatE (s1.que k ++ [cg.ev seq]))) := by show World.ownsRow _ _ _ _ _ _ _; rw [flatE_snoc]; exact own
              have HB2 := Lib.hid hb2
              obtain ⟨A7, c7, rfl, _⟩ := own_shape OA2.out
              clear own grow hb2 HB OA IC
              have HB := HB2
              have OA := OA2
              clear HB2 OA2
              refine wpAnyH_take (i := 31) (oi := { dst := some 75, op := .indexAddr 30 (.tmp 74) (.tmp 45), type := _, pos := _, after := _, guard := _ }) (v := .pointer (some ⟨r, 2 + k, none⟩)) rfl (by kernel_rfl) (by kernel_rfl) (by kernel_rfl) (fun _ _ _ h => h) (Or.inl ⟨by rfl, ?_⟩) (HK.out _ HB.out) ?_
              · intro w' hSw
                go_simp; (try (intro h8; omega))
              try simp only [Act.put, List.setIfInBounds_toArray, List.set_cons_zero, List.set_cons_succ]
              refine wpAnyH_ready (rs := [32]) (by kernel_rfl) (by simp) ?_
              refine AllReadyH.cons (o := { dst := none, op := .store 29 (.tmp 75) (.tmp 72), type := _, pos := _, after := _, guard := _ }) rfl (fun K hK => ?_) AllReadyH.nil
              have I7 := HV4.out.box.below HB.out HV4.out.box.lt
              have b1 : Y40.cell? ⟨r, 2 + k, none⟩ = some (.slice A (s1.que k).length cq) := (HB.out.cell (p := ⟨r, 2 + k, none⟩) l1).trans a1
              have g1 := I7.frozen (2 + k)
              have k1 := I7.lt
              clear I7
              go_simp
              refine hK.out _ _ (HK2.out _ HB.out _) (fun _ => ?_)
              clear hK K b1 g1 k1
              try simp only [Act.put, List.setIfInBounds_toArray, List.set_cons_zero, List.set_cons_succ]
              refine wpAnyH_done (by kernel_rfl) ?_ _
              have HFIN := Lib.hid (room_left HV4.out hk HB.out OA.out)
              go_wp2_with fail
              go_roundw
              case rel =>
                (try (repeat apply Exists.intro))
                (try refine ⟨?_, rfl⟩)
                obtain ⟨R7, hR7, hW7⟩ := HFIN.out
                refine ⟨k + 1, by omega, by go_num, R7, ?_, HW4.out.trans hW7⟩
                rw [HE1.out, HS.out]
                refine hR7.congr (fun i => ?_) (fun i => ?_)
                · show _ = upd s1.que k _ i
                  rw [HFU.out.1]
                · show _ = upd s1.los k _ i
                  rw [HFU.out.2]
                  by_cases e : i = k
                  · subst e; rw [upd_same]
                  · rw [upd_other _ _ e]
              case measure => simp [intOf]; omega
        · obtain rfl : k = 8 := by omega
          have d1 : decide (((8 : Nat) : Int) < 8) = false := by decide
          go_wp2_with fail
          go_roundw
          case rel => exact .inr ⟨by go_num, R2, HA2.out, HW2.out⟩
          case measure => simp [intOf]
    · have HA1 := Lib.hid hA
      have HW1 := Lib.hid hW
      clear hA hW HA
      go_wp2_with fail
      go_end0
      exact ⟨rfl, R1, HA1.out, HW1.out⟩
end Feed
end Go.Proofs.Ytdkjcheannehhaa
