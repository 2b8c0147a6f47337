/-
  What the reference's (layer 9) Watch, Unwatch and Drain come to.
-/
import Derived.Test.YtohdlnefgieenaaGreatJ26
namespace Go.Proofs.YtohdlnefgieenaaGreat
open Go.RowKit Go.Shelf
attribute [local go_sem] Oper.semAt_some
namespace Feed
open Go.Law
structure RWent (w : World) (R : Nat → Prop) (r : Nat) (w' : World) (R' : Nat → Prop) : Prop where
 touch : Law.Touch w w' (fun k => k = r)
 new : ∀ n, R' n → R n ∨ w.heap.size ≤ n
theorem RWent.of_below {w w' : World} {R : Nat → Prop} {r : Nat} (hb : Below w.heap.size w w') : RWent w R r w' R := ⟨Law.Touch.of_below hb _, fun _ h => .inl h⟩
theorem RWent.trans {w w' w'' : World} {R R' R'' : Nat → Prop} {r : Nat} (h : RWent w R r w' R') (h' : RWent w' R' r w'' R'') : RWent w R r w'' R'' :=
 ⟨h.touch.trans h'.touch (fun _ hk => .inl hk), fun n hn => (h'.new n hn).elim (h.new n) (fun hl => .inr (Nat.le_trans h.touch.size hl))⟩
def RDone (w : World) (R : Nat → Prop) (r : Nat) (room : Int) (ps : List Pa) (qs : Nat → List Ev) (ls : Nat → Bool) (e : Ending) (w' : World) : Prop :=
 e = .returned (.tuple #[]) ∧ ∃ R', RefAt w' R' r room ps qs ls ∧ RWent w R r w' R'
theorem elemP : ∃ i, Law.Elem Tryz.prog 77 143 i (.agg #[.int .i64 0, .string ⟨#[]⟩]) 2 24 := Law.Elem.of Tryz.underlying77 (by kernel_rfl) rfl (by decide)
theorem own_emptyP (w : World) {base : Nat} (e : TypeId) (hb : base ≤ w.heap.size) : (w.alloc (.cells #[] e)).ownsRow base e 2 (.slice (some ⟨w.heap.size, 0, none⟩) 0 0) 0 [] :=
 ⟨rfl, .inr ⟨w.heap.size, 0, #[], rfl, hb, heap_alloc_new w _, Nat.le_refl _, Nat.zero_le _, rfl, rfl⟩⟩
theorem RefV.pairs {w w' : World} {R : Nat → Prop} {r : Nat} {room : Int} {ps ps' : List Pa} {qs : Nat → List Ev} {ls : Nat → Bool} {vp : Value} {vq : Nat → Value} (h : RefV w R r room ps qs ls vp vq) (hb : Below w.heap.size w w') {A : Option Addr} {c : Nat} (hs : Seq w' w.heap.size w'.heap.size A (flatP ps')) :
  RefAt (w'.setCell ⟨r, 1, none⟩ (.slice A ps'.length c)) (fun n => R n ∨ w.heap.size ≤ n ∧ n < w'.heap.size) r room ps' qs ls ∧ RWent w R r (w'.setCell ⟨r, 1, none⟩ (.slice A ps'.length c)) (fun n => R n ∨ w.heap.size ≤ n ∧ n < w'.heap.size) := by
 have h1 := h.below hb
 have hlt := h.box.lt
 have hout : ¬ (R r ∨ w.heap.size ≤ r ∧ r < w'.heap.size) := fun h' => h'.elim h.out (fun h' => by omega)
 have ht := Law.Touch.store (T := fun k => k = r) w' ⟨r, 1, none⟩ (.slice A ps'.length c) rfl
 refine ⟨⟨.slice A ps'.length c, vq, h1.box.set 1 _ rfl, hout, fun n hn => ?_, ⟨A, c, rfl, ?_⟩, fun k hk => ?_, h.cap⟩, ⟨(Law.Touch.of_below hb _).trans ht (fun _ hk => .inl hk), fun n hn => hn.imp id And.left⟩⟩
 ·have : n < w'.heap.size := hn.elim (h1.ok n) And.right
  simpa using this
 ·exact (LieR.of_seq (R := fun n => R n ∨ w.heap.size ≤ n ∧ n < w'.heap.size) hs (fun n h1 h2 => .inr ⟨h1, h2⟩)).touch ht (fun n hn e => hout (e ▸ hn)) (fun n hn => hn.elim (h1.ok n) And.right)
 ·obtain ⟨A, c, e, hl⟩ := h1.qu k hk
  exact ⟨A, c, e, (hl.touch ht (fun n hn e => h.out (e ▸ hn)) h1.ok).mono (fun n hn => .inl hn)⟩
set_option maxRecDepth 100000 in
set_option maxHeartbeats 2000000 in
theorem rWatch_new {w : World} {R : Nat → Prop} {r k : Nat} {room : Int} {ps : List Pa} {qs : Nat → List Ev} {ls : Nat → Bool} (h : RefAt w R r room ps qs ls) (hl : ps.length ≤ 999) (hk : k < 8) (u : ByteArray) (hn : ((k : Int), u) ∉ ps) :
  Calls Tryz.prog 38 #[.pointer (some ⟨r, 0, none⟩), .int .i64 (k : Int), .string u] w (RDone w R r room (ps ++ [((k : Int), u)]) qs ls) := by
 have HW := Lib.hid (rWatching h (by omega) (k : Int) u (res := false) ⟨fun h => Bool.noConfusion h, fun h => absurd h hn⟩)
 have HA := Lib.hid h
 obtain ⟨i0, hE⟩ := elemP
 have HE := Lib.hid hE
 have d1 : decide ((0 : Int) ≤ (k : Int)) = true := by simp
 have d2 : decide ((k : Int) < 8) = true := by simp; omega
 clear h hn hE
 go_enter Tryz.func38, Tryz.ntmps38
 go_wp2_with fail
 refine HW.out.mono ?_
 rintro e w1 ⟨rfl, hb⟩
 have HA1 := Lib.hid (HA.out.below hb)
 have HB1 := Lib.hid hb
 clear hb HW HA
 obtain ⟨vp, vq, hv⟩ := HA1.out
 obtain ⟨A, c, rfl, hp⟩ := hv.pr
 have HV := Lib.hid hv
 have HP := Lib.hid (hp.seq hv.ok)
 have c1 : w1.cell? ⟨r, 1, none⟩ = some (.slice A ps.length c) := hv.box.cell' rfl
 have l1 := hv.box.lt
 have HO := Lib.hid (own_emptyP w1 143 (base := w1.heap.size) (Nat.le_refl _))
 have HS1 := Lib.hid ((hp.seq hv.ok).alloc (Nat.le_refl _) (.cells #[] 143))
 have HB0 := Lib.hid ((Below.refl w1.heap.size w1).alloc (Nat.le_refl _) (.cells #[] 143))
 clear hv hp HA1
 go_wp2_with (first
  | (at_builtin; refine Law.wpList_append_seq _ w1.heap.size 77 rfl _ _ rfl HE.out _ 0 [] rfl HO.out 0 w1.heap.size A ps.length c (flatP ps) rfl (flatP_length ps) HS1.out (flatP_one _) (by unfold maxLen; omega) (by omega) (by simp) ?_; intro v1 z1 hown hg; have hb1 := HB0.out.grown hg (by simp) (fun k hk => (HO.out.lt k hk).1); have HB2 := Lib.hid hb1; have hown1 : z1.ownsRow w1.heap.size 143 2 v1 ps.length (flatP ps) := (by simpa using hown); have HO1 := Lib.hid hown1; have sz1 := hb1.size; obtain ⟨D1, cd1, hD1, hcd1⟩ := own_shape HO1.out; subst hD1; clear hown hg hb1 hown1)
  | (at_builtin; refine wpList_append_own _ rfl _ _ 77 rfl w1.heap.size 143 i0 (.agg #[.int .i64 0, .string ⟨#[]⟩]) 2 24 HE.out.ut HE.out.info HE.out.zero HE.out.sz HE.out.by_ HE.out.cells HE.out.pos _ _ _ rfl (HO1.out.alloc _) ⟨z1.heap.size, 0, none⟩ 1 1 (cellsP ((k : Int), u)) rfl rfl (new_P z1 ((k : Int), u) _ rfl) (one_P _) (by unfold maxLen; omega) (by omega) (by simp; omega) ?_; intro v2 z2 hown hg _; have hb2 := (HB2.out.alloc sz1 _).grown hg (by simp; omega) (fun k hk => (HO1.out.lt k hk).1); have HB3 := Lib.hid hb2; have HO2 := Lib.hid hown; have I2 := HV.out.box.below hb2 HV.out.box.lt; have c2 : z2.cell? ⟨r, 1, none⟩ = some (.slice A ps.length c) := I2.cell' rfl; have f2 := I2.frozen 1; have l2 := I2.lt; obtain ⟨g2, cap2, rfl⟩ := ownsRow_succ hown; clear hown hg hb2 I2))
 go_end0
 have hsq : Seq z2 w1.heap.size z2.heap.size (some ⟨g2, 0, none⟩) (flatP (ps ++ [((k : Int), u)])) := by rw [flatP_snoc]; exact Seq.own HO2.out
 have hfin := HV.out.pairs HB3.out (ps' := ps ++ [((k : Int), u)]) (c := cap2) hsq
 rw [List.length_append] at hfin
 exact ⟨rfl, _, hfin.1, (RWent.of_below HB1.out).trans hfin.2⟩
set_option maxHeartbeats 1000000 in
theorem rWatch_old {w : World} {R : Nat → Prop} {r k : Nat} {room : Int} {ps : List Pa} {qs : Nat → List Ev} {ls : Nat → Bool} (h : RefAt w R r room ps qs ls) (hl : ps.length ≤ 999) (hk : k < 8) (u : ByteArray) (hn : ((k : Int), u) ∈ ps) :
  Calls Tryz.prog 38 #[.pointer (some ⟨r, 0, none⟩), .int .i64 (k : Int), .string u] w (RDone w R r room ps qs ls) := by
 have HW := Lib.hid (rWatching h (by omega) (k : Int) u (res := true) ⟨fun _ => hn, fun _ => rfl⟩)
 have HA := Lib.hid h
 have d1 : decide ((0 : Int) ≤ (k : Int)) = true := by simp
 have d2 : decide ((k : Int) < 8) = true := by simp; omega
 clear h hn
 go_enter Tryz.func38, Tryz.ntmps38
 go_wp2_with fail
 refine HW.out.mono ?_
 rintro e w1 ⟨rfl, hb⟩
 have HA1 := Lib.hid (HA.out.below hb)
 have HB1 := Lib.hid hb
 clear hb HW HA
 go_wp2_with fail
 go_end0
 exact ⟨rfl, R, HA1.out, RWent.of_below HB1.out⟩
set_option maxRecDepth 100000 in
set_option maxHeartbeats 2000000 in
theorem rUnwatch {w : World} {R : Nat → Prop} {r : Nat} {room : Int} {ps : List Pa} {qs : Nat → List Ev} {ls : Nat → Bool} (h : RefAt w R r room ps qs ls) (hl : ps.length ≤ 1000) (who : Int) (u : ByteArray) :
  Calls Tryz.prog 39 #[.pointer (some ⟨r, 0, none⟩), .int .i64 who, .string u] w (RDone w R r room (ps.filter fun p => !decide (p = (who, u))) qs ls) := by
 obtain ⟨i0, hE⟩ := elemP
 have HE := Lib.hid hE
 obtain ⟨vp, vq, hv⟩ := h
 obtain ⟨A, c, rfl, hp⟩ := hv.pr
 have HV := Lib.hid hv
 have HP := Lib.hid (hp.seq hv.ok)
 clear hv hp hE
 go_enter Tryz.func39, Tryz.ntmps39
 go_wp2_with fail
 go_loopw [6, 7] (fun vo i wr => ∃ j : Nat, j ≤ ps.length ∧ i = .int .i64 j ∧ wr.ownsRow w.heap.size 143 2 vo ((ps.take j).filter fun p => !decide (p = (who, u))).length (flatP ((ps.take j).filter fun p => !decide (p = (who, u)))) ∧ Below w.heap.size w wr) (fun _ i _ => ps.length - (intOf i).toNat)
 case atStart => exact ⟨0, Nat.zero_le _, rfl, World.ownsRow_nil _ _ _ _, Below.refl _ _⟩
 case round =>
  obtain ⟨j, hj, rfl, hO, hB⟩ := hrel
  have I1 := HV.out.box.below hB HV.out.box.lt
  have c1 : World.cell? _ ⟨r, 1, none⟩ = some (.slice A ps.length c) := I1.cell' rfl
  have f1 := I1.frozen 1
  have l1 := I1.lt
  have HO := Lib.hid hO
  have HB := Lib.hid hB
  have sz := hB.size
  have hfl : ((ps.take j).filter fun p => !decide (p = (who, u))).length ≤ 1000 := Nat.le_trans (List.length_filter_le ..) (by simp; omega)
  clear hO hB I1
  by_cases hlt : j < ps.length
  ·have d1 : decide ((j : Int) < (ps.length : Int)) = true := by simp; omega
   obtain ⟨g, o, rfl, _, hg, p0, p1⟩ := (HP.out.below HB.out).pa hlt
   have HTK := Lib.hid (List.take_succ_eq_append_getElem hlt)
   have lg := Nat.lt_of_lt_of_le hg sz
   generalize ps[j] = p at *
   obtain ⟨a, y⟩ := p
   simp only at p0 p1
   by_cases ha : a = who
   ·by_cases hy : y = u
    ·subst ha hy
     have e1 : (a != a) = false := by simp
     have e2 : (y.toList != y.toList) = false := by simp
     have e3 : (y.toList == y.toList) = true := by simp
     have HF : Hid ((ps.take (j + 1)).filter (fun p => !decide (p = (a, y))) = (ps.take j).filter (fun p => !decide (p = (a, y)))) := by show _ = _; rw [HTK.out, List.filter_append, List.filter_cons_of_neg (by simp)]; simp
     generalize (ps.take j).filter (fun p => !decide (p = (a, y))) = fs at *
     obtain ⟨D, cd, rfl, hcd⟩ := own_shape HO.out
     go_wp2_with fail
     go_roundw
     case rel => exact ⟨j + 1, by omega, by go_num, by rw [HF.out]; exact HO.out, HB.out⟩
     case measure => simp [intOf]; omega
    ·subst ha
     have hne : ¬ (a, y) = (a, u) := fun e => hy (congrArg Prod.snd e)
     have e1 : (a != a) = false := by simp
     have e2 : (y.toList != u.toList) = true := by simpa using fun e => hy (OmapU.ext e)
     have e3 : (y.toList == u.toList) = false := by simpa using fun e => hy (OmapU.ext e)
     have HF : Hid ((ps.take (j + 1)).filter (fun p => !decide (p = (a, u))) = (ps.take j).filter (fun p => !decide (p = (a, u))) ++ [(a, y)]) := by show _ = _; rw [HTK.out, List.filter_append, List.filter_cons_of_pos (by rw [decide_eq_false hne]; rfl)]; simp
     generalize (ps.take j).filter (fun p => !decide (p = (a, u))) = fs at *
     obtain ⟨D, cd, rfl, hcd⟩ := own_shape HO.out
     go_wp2_with (at_builtin; refine wpList_append_own _ rfl _ _ 77 rfl w.heap.size 143 i0 (.agg #[.int .i64 0, .string ⟨#[]⟩]) 2 24 HE.out.ut HE.out.info HE.out.zero HE.out.sz HE.out.by_ HE.out.cells HE.out.pos _ _ _ rfl (HO.out.alloc _) ⟨wr.heap.size, 0, none⟩ 1 1 (cellsP (a, y)) rfl rfl (new_P wr (a, y) _ rfl) (one_P _) (by unfold maxLen; omega) (by omega) (by simp; omega) ?_; intro v2 z2 hown hg _; have HB3 := Lib.hid ((HB.out.alloc sz _).grown hg (by simp; omega) (fun k hk => (HO.out.lt k hk).1)); have HO2 := Lib.hid hown; obtain ⟨g2, cap2, rfl⟩ := ownsRow_succ hown; clear hown hg)
     go_roundw
     case rel => exact ⟨j + 1, by omega, by go_num, by rw [HF.out, flatP_snoc, List.length_append]; exact HO2.out, HB3.out⟩
     case measure => simp [intOf]; omega
   ·have hne : ¬ (a, y) = (who, u) := fun e => ha (congrArg Prod.fst e)
    have e1 : (a != who) = true := by simpa using ha
    have HF : Hid ((ps.take (j + 1)).filter (fun p => !decide (p = (who, u))) = (ps.take j).filter (fun p => !decide (p = (who, u))) ++ [(a, y)]) := by show _ = _; rw [HTK.out, List.filter_append, List.filter_cons_of_pos (by rw [decide_eq_false hne]; rfl)]; simp
    generalize (ps.take j).filter (fun p => !decide (p = (who, u))) = fs at *
    obtain ⟨D, cd, rfl, hcd⟩ := own_shape HO.out
    go_wp2_with (at_builtin; refine wpList_append_own _ rfl _ _ 77 rfl w.heap.size 143 i0 (.agg #[.int .i64 0, .string ⟨#[]⟩]) 2 24 HE.out.ut HE.out.info HE.out.zero HE.out.sz HE.out.by_ HE.out.cells HE.out.pos _ _ _ rfl (HO.out.alloc _) ⟨wr.heap.size, 0, none⟩ 1 1 (cellsP (a, y)) rfl rfl (new_P wr (a, y) _ rfl) (one_P _) (by unfold maxLen; omega) (by omega) (by simp; omega) ?_; intro v2 z2 hown hg _; have HB3 := Lib.hid ((HB.out.alloc sz _).grown hg (by simp; omega) (fun k hk => (HO.out.lt k hk).1)); have HO2 := Lib.hid hown; obtain ⟨g2, cap2, rfl⟩ := ownsRow_succ hown; clear hown hg)
    go_roundw
    case rel => exact ⟨j + 1, by omega, by go_num, by rw [HF.out, flatP_snoc, List.length_append]; exact HO2.out, HB3.out⟩
    case measure => simp [intOf]; omega
  ·have d1 : decide ((j : Int) < (ps.length : Int)) = false := by simp; omega
   have e1 : ps.take j = ps := List.take_of_length_le (by omega)
   rw [e1] at HO hfl
   obtain ⟨fs, hfs⟩ : ∃ fs, (ps.filter fun p => !decide (p = (who, u))) = fs := ⟨_, rfl⟩
   rw [hfs] at HO hfl
   have HFS := Lib.hid hfs
   clear hfs
   obtain ⟨D, cd, rfl, hcd⟩ := own_shape HO.out
   go_wp2_with fail
   go_end0
   have hfin := HV.out.pairs HB.out (ps' := fs) (c := cd) (Seq.own HO.out)
   exact ⟨rfl, _, by rw [HFS.out]; exact hfin.1, hfin.2⟩
end Feed
end Go.Proofs.YtohdlnefgieenaaGreat
namespace Go.Proofs.YtohdlnefgieenaaGreat
open Go.RowKit Go.Shelf
attribute [local go_sem] Oper.semAt_some
namespace Feed
open Go.Law
theorem RefAt.congr {w : World} {R : Nat → Prop} {r : Nat} {room : Int} {ps : List Pa} {qs qs' : Nat → List Ev} {ls ls' : Nat → Bool} (h : RefAt w R r room ps qs ls) (h1 : ∀ k, qs k = qs' k) (h2 : ∀ k, ls k = ls' k) : RefAt w R r room ps qs' ls' := by
 obtain rfl : qs = qs' := funext h1
 obtain rfl : ls = ls' := funext h2
 exact h
theorem RefV.queue {w : World} {R R' : Nat → Prop} {r k : Nat} {room : Int} {ps : List Pa} {qs : Nat → List Ev} {ls : Nat → Bool} {vp : Value} {vq : Nat → Value} (h : RefV w R r room ps qs ls vp vq) (hk : k < 8) {zs : List Ev} {A : Option Addr} {c : Nat} (hs : LieR R' w A (flatE zs)) (hR : ∀ n, R n → R' n) (hr : ¬ R' r) (hok : ∀ n, R' n → n < w.heap.size) (hcz : zs.length ≤ c) :
  RefV (w.setCell ⟨r, 2 + k, none⟩ (.slice A zs.length c)) R' r room ps (upd qs k zs) ls vp (upd vq k (.slice A zs.length c)) := by
 have ht := Law.Touch.store (T := fun n => n = r) w ⟨r, 2 + k, none⟩ (.slice A zs.length c) rfl
 refine ⟨h.box.set _ _ (cellsRf_setq _ _ _ _ _ hk), hr, fun n hn => by simpa using hok n hn, ?_, fun i hi => ?_, fun i hi A' n' c' e' => ?_⟩
 ·obtain ⟨A, c, e, hl⟩ := h.pr
  exact ⟨A, c, e, (hl.touch ht (fun n hn e => h.out (e ▸ hn)) h.ok).mono hR⟩
 ·by_cases e : i = k
  ·subst e
   exact ⟨A, c, by rw [upd_same, upd_same], by rw [upd_same]; exact hs.touch ht (fun n hn e => hr (e ▸ hn)) hok⟩
  ·obtain ⟨A', c', e', hl⟩ := h.qu i hi
   exact ⟨A', c', by rw [upd_other _ _ e, upd_other _ _ e]; exact e', by rw [upd_other _ _ e]; exact (hl.touch ht (fun n hn e => h.out (e ▸ hn)) h.ok).mono hR⟩
 ·by_cases e : i = k
  ·subst e
   rw [upd_same] at e'
   injection e' with _ e2 e3
   omega
  ·rw [upd_other _ _ e] at e'
   exact h.cap i hi A' n' c' e'
theorem RefV.mark {w : World} {R : Nat → Prop} {r k : Nat} {room : Int} {ps : List Pa} {qs : Nat → List Ev} {ls : Nat → Bool} {vp : Value} {vq : Nat → Value} (h : RefV w R r room ps qs ls vp vq) (hk : k < 8) (b : Bool) :
  RefV (w.setCell ⟨r, 10 + k, none⟩ (.bool b)) R r room ps qs (upd ls k b) vp vq := by
 have ht := Law.Touch.store (T := fun n => n = r) w ⟨r, 10 + k, none⟩ (.bool b) rfl
 refine ⟨h.box.set _ _ (cellsRf_setl _ _ _ _ _ hk), h.out, fun n hn => by simpa using h.ok n hn, ?_, fun i hi => ?_, h.cap⟩
 ·obtain ⟨A, c, e, hl⟩ := h.pr
  exact ⟨A, c, e, hl.touch ht (fun n hn e => h.out (e ▸ hn)) h.ok⟩
 ·obtain ⟨A', c', e', hl⟩ := h.qu i hi
  exact ⟨A', c', e', hl.touch ht (fun n hn e => h.out (e ▸ hn)) h.ok⟩
def RDrainedC (w : World) (R : Nat → Prop) (r k : Nat) (room : Int) (ps : List Pa) (qs : Nat → List Ev) (ls : Nat → Bool) (e : Ending) (w' : World) : Prop :=
 ∃ A c, e = .returned (.tuple #[.slice A (qs k).length c, .bool (ls k)]) ∧ (qs k).length ≤ c ∧ LieR R w' A (flatE (qs k)) ∧ RefAt w' R r room ps (upd qs k []) (upd ls k false) ∧ RWent w R r w' R
set_option maxRecDepth 100000 in
set_option maxHeartbeats 2000000 in
theorem rDrainC {w : World} {R : Nat → Prop} {r k : Nat} {room : Int} {ps : List Pa} {qs : Nat → List Ev} {ls : Nat → Bool} (h : RefAt w R r room ps qs ls) (hk : k < 8) :
  Calls Tryz.prog 32 #[.pointer (some ⟨r, 0, none⟩), .int .i64 (k : Int)] w (RDrainedC w R r k room ps qs ls) := by
 obtain ⟨vp, vq, h⟩ := h
 obtain ⟨A, c, hq, hl⟩ := h.qu k hk
 have hcap := h.cap k hk _ _ _ hq
 have HV := Lib.hid h
 have HL := Lib.hid hl
 have d1 : decide ((k : Int) < 0) = false := by simp
 have d2 : decide (7 < (k : Int)) = false := by simp; omega
 have c1 : w.cell? ⟨r, 2 + k, none⟩ = some (.slice A (qs k).length c) := (h.box.cell _).trans (by have := cellsRf_q room vp vq ls hk; rw [hq] at this; simpa using this)
 have c2 : w.cell? ⟨r, 10 + k, none⟩ = some (.bool (ls k)) := (h.box.cell _).trans (by simpa using cellsRf_l room vp vq ls hk)
 have f1 := h.box.frozen (2 + k)
 have f2 := h.box.frozen (10 + k)
 have l1 := h.box.lt
 have hk7 : k ≤ 7 := by omega
 clear h hq hl
 go_enter Tryz.func32, Tryz.ntmps32
 go_wp2_with fail
 go_quiet (fail)
 have hbq : Below w.heap.size w (w.drewN nq) := Law.below_drewN (Below.refl _ w) nq
 have HBQ := Lib.hid hbq
 have HV2 := Lib.hid (HV.out.below hbq)
 have HL2 : Hid (LieR R (w.drewN nq) A (flatE (qs k))) := HL.out.touch (Law.Touch.of_below hbq fun _ => False) (fun _ _ h => h) HV.out.ok
 have c3 : (w.drewN nq).cell? ⟨r, 2 + k, none⟩ = some (.slice A (qs k).length c) := c1
 have c4 : (w.drewN nq).cell? ⟨r, 10 + k, none⟩ = some (.bool (ls k)) := c2
 have f3 := HV2.out.box.frozen (2 + k)
 have f4 := HV2.out.box.frozen (10 + k)
 have l3 := HV2.out.box.lt
 clear hbq HV HL c1 c2 f1 f2 l1
 generalize w.drewN nq = W2 at *
 go_wp2_with fail
 refine wp_region_held_drew (S := fun _ => True) (by kernel_rfl) trivial (fun hS0 => ?_)
 refine Go.Law.tk 0 ⟨some 26, .move (.tmp 0), _, _, _, _⟩ (v := .pointer (some ⟨r, 0, none⟩)) hS0 ?_ ?_
 ·intro w' hSw
  go_simp
 try simp only [Go.Law.pz]
 refine Go.Law.tk 1 ⟨some 27, .move (.tmp 1), _, _, _, _⟩ (v := .int .i64 (k : Int)) hS0 ?_ ?_
 ·intro w' hSw
  go_simp
 try simp only [Go.Law.pz]
 refine Go.Law.tk 2 ⟨some 28, .move (.tmp 0), _, _, _, _⟩ (v := .pointer (some ⟨r, 0, none⟩)) hS0 ?_ ?_
 ·intro w' hSw
  go_simp
 try simp only [Go.Law.pz]
 refine Go.Law.tk 3 ⟨some 29, .move (.tmp 1), _, _, _, _⟩ (v := .int .i64 (k : Int)) hS0 ?_ ?_
 ·intro w' hSw
  go_simp
 try simp only [Go.Law.pz]
 refine Go.Law.tk 4 ⟨some 30, .nilCheck (.tmp 26), _, _, _, _⟩ (v := .pointer (some ⟨r, 0, none⟩)) hS0 ?_ ?_
 ·intro w' hSw
  go_simp
 try simp only [Go.Law.pz]
 refine Go.Law.tk 5 ⟨some 31, .fieldAddr 81 (.tmp 30) 2, _, _, _, _⟩ (v := .pointer (some ⟨r, 2, none⟩)) hS0 ?_ ?_
 ·intro w' hSw
  go_simp
 try simp only [Go.Law.pz]
 refine Go.Law.tk 6 ⟨some 32, .indexAddr 78 (.tmp 31) (.tmp 27), _, _, _, _⟩ (v := .pointer (some ⟨r, 2 + k, none⟩)) hS0 ?_ ?_
 ·intro w' hSw
  go_simp; (try (intro h8; omega))
 try simp only [Go.Law.pz]
 refine Go.Law.tk 8 ⟨some 33, .nilCheck (.tmp 28), _, _, _, _⟩ (v := .pointer (some ⟨r, 0, none⟩)) hS0 ?_ ?_
 ·intro w' hSw
  go_simp
 try simp only [Go.Law.pz]
 refine Go.Law.tk 9 ⟨some 34, .fieldAddr 81 (.tmp 33) 3, _, _, _, _⟩ (v := .pointer (some ⟨r, 10, none⟩)) hS0 ?_ ?_
 ·intro w' hSw
  go_simp
 try simp only [Go.Law.pz]
 refine wpAnyH_ready (rs := [7]) (by kernel_rfl) (by simp) ?_
 refine AllReadyH.cons (o := ⟨none, .store 41 (.tmp 32) (.const (.slice none 0 0)), _, _, _, _⟩) rfl (fun K hK => ?_) AllReadyH.nil
 go_simp
 refine hK.out _ _ trivial (fun hS1 => ?_)
 clear hK K
 try simp only [Go.Law.pz]
 refine Go.Law.tk 10 ⟨some 35, .indexAddr 79 (.tmp 34) (.tmp 29), _, _, _, _⟩ (v := .pointer (some ⟨r, 10 + k, none⟩)) hS1 ?_ ?_
 ·intro w' hSw
  go_simp; (try (intro h8; omega))
 try simp only [Go.Law.pz]
 refine wpAnyH_ready (rs := [11]) (by kernel_rfl) (by simp) ?_
 refine AllReadyH.cons (o := ⟨none, .store 4 (.tmp 35) (.const (.bool false)), _, _, _, _⟩) rfl (fun K hK => ?_) AllReadyH.nil
 go_simp
 refine hK.out _ _ trivial (fun hS2 => ?_)
 clear hK K
 try simp only [Go.Law.pz]
 refine wpAnyH_done (by kernel_rfl) ?_ _
 go_wp2_with fail
 go_ret2
 have hq := (HV2.out.queue hk (zs := []) (A := none) (c := 0) (R' := R) (fun h => absurd rfl h) (fun _ h => h) HV2.out.out HV2.out.ok (Nat.le_refl _)).mark hk false
 have ht : Law.Touch W2 ((W2.setCell ⟨r, 2 + k, none⟩ (.slice none 0 0)).setCell ⟨r, 10 + k, none⟩ (.bool false)) (fun n => n = r) := (Law.Touch.store (T := fun n => n = r) W2 ⟨r, 2 + k, none⟩ _ rfl).trans (Law.Touch.store (T := fun n => n = r) _ ⟨r, 10 + k, none⟩ _ rfl) (fun _ h => .inl h)
 obtain ⟨W3, hW3⟩ : ∃ W3, (W2.setCell ⟨r, 2 + k, none⟩ (.slice none 0 0)).setCell ⟨r, 10 + k, none⟩ (.bool false) = W3 := ⟨_, rfl⟩
 rw [show (W2.setCell ⟨r, 2 + k, none⟩ (.slice none ([] : List Ev).length 0)).setCell ⟨r, 10 + k, none⟩ (.bool false) = W3 from hW3] at hq
 rw [hW3] at ht ⊢
 have hd : Below W3.heap.size W3 W3.drew := Law.below_drewN (Below.refl _ W3) 1
 have hl := HL2.out.touch ht (fun n hn e => HV2.out.out (e ▸ hn)) HV2.out.ok
 exact ⟨A, c, rfl, hcap, hl.touch (Law.Touch.of_below hd fun _ => False) (fun _ _ h => h) hq.ok, ⟨_, _, hq.below hd⟩, (RWent.of_below HBQ.out).trans (RWent.trans ⟨ht, fun _ h => .inl h⟩ (RWent.of_below hd))⟩
end Feed
end Go.Proofs.YtohdlnefgieenaaGreat
namespace Go.Proofs.YtohdlnefgieenaaGreat
open Go.RowKit Go.Shelf
attribute [local go_sem] Oper.semAt_some
namespace Feed
open Go.Law
theorem RWent.is {w w' : World} {R R' : Nat → Prop} {r g : Nat} {t t' : TypeId} {cs cr : Array Value} (h : RWent w R r w' R') (hi : Is w g t cs) (hr : Is w r t' cr) (ht : t ≠ t') : Is w' g t cs := h.touch.is hi (hi.type_ne hr ht)
theorem seq_box {w : World} {g : Nat} {t : TypeId} {x : Ev} (h : Is w g t x.box) : Seq w g (g + 1) (some ⟨g, 0, none⟩) (cellsE x) := fun _ => ⟨g, 0, rfl, Nat.le_refl _, Nat.lt_succ_self _, fun i u hu => by rw [Nat.zero_add, h.cell]; simpa [cellsE] using hu⟩
theorem own_emptyN (w : World) {base : Nat} (e : TypeId) (hb : base ≤ w.heap.size) : (w.alloc (.cells #[] e)).ownsRow base e 8 (.slice (some ⟨w.heap.size, 0, none⟩) 0 0) 0 [] :=
 ⟨rfl, .inr ⟨w.heap.size, 0, #[], rfl, hb, heap_alloc_new w _, Nat.le_refl _, Nat.zero_le _, rfl, rfl⟩⟩
theorem room_left {w w' : World} {R : Nat → Prop} {r k : Nat} {room : Int} {ps : List Pa} {qs : Nat → List Ev} {ls : Nat → Bool} {vp : Value} {vq : Nat → Value} (h : RefV w R r room ps qs ls vp vq) (hk : k < 8) (hb : Below w.heap.size w w') {A : Option Addr} {c n : Nat} {zs : List Ev} (ho : w'.ownsRow w.heap.size 63 8 (.slice A n c) n (flatE zs)) (hn : n = zs.length := by simp) :
  ∃ R', RefAt (w'.setCell ⟨r, 2 + k, none⟩ (.slice A n c)) R' r room ps (upd qs k zs) ls ∧ RWent w R r (w'.setCell ⟨r, 2 + k, none⟩ (.slice A n c)) R' := by
 subst hn
 have hcz : zs.length ≤ c := by obtain ⟨A', c', e, hc⟩ := own_shape ho; injection e with e1 e2 e3; subst e3; exact hc
 have h1 := h.below hb
 have hlt := h.box.lt
 have hout : ¬ (R r ∨ w.heap.size ≤ r ∧ r < w'.heap.size) := fun h' => h'.elim h.out (fun h' => by omega)
 refine ⟨fun n => R n ∨ w.heap.size ≤ n ∧ n < w'.heap.size, ⟨_, _, h1.queue hk (LieR.of_seq (Seq.own ho) (fun n h1 h2 => .inr ⟨h1, h2⟩)) (fun n hn => .inl hn) hout (fun n hn => hn.elim (h1.ok n) And.right) hcz⟩, ⟨(Law.Touch.of_below hb _).trans (Law.Touch.store (T := fun k => k = r) w' ⟨r, 2 + k, none⟩ _ rfl) (fun _ hk => .inl hk), fun n hn => hn.imp id And.left⟩⟩
def TellI (w : World) (R : Nat → Prop) (r : Nat) (room : Int) (ps : List Pa) (s : St) (e : Ev) (i : Value) (wx : World) : Prop := ∃ k : Nat, k ≤ 8 ∧ i = .int .i64 k ∧ ∃ R', RefAt wx R' r room ps (s.upto room.toNat e k).que (s.upto room.toNat e k).los ∧ RWent w R r wx R'
def ChAt (w : World) (gl o : Nat) (q : Cg) : Prop := ∃ cs, Is w gl 131 cs ∧ ∀ i u, (cellsG q)[i]? = some u → cs[o + i]? = some u
section
variable {w w' : World} {gl o r : Nat} {q : Cg} {R R' : Nat → Prop}
theorem ChAt.cg (h : ChAt w gl o q) : CgAt w gl o q := by
 obtain ⟨cs, hi, hc⟩ := h
 have f : ∀ i u, (cellsG q)[i]? = some u → w.cell? ⟨gl, o + i, none⟩ = some u := fun i u hu => (hi.cell _).trans (hc i u hu)
 obtain ⟨us, o1, o2, o3, n1, n2, n3⟩ := q
 have f0 := f 0 (.string us) rfl
 exact ⟨f0, f 1 (.int .i64 o1) rfl, f 2 (.int .i64 o2) rfl, f 3 (.int .i64 o3) rfl, f 4 (.int .i64 n1) rfl, f 5 (.int .i64 n2) rfl, f 6 (.int .i64 n3) rfl⟩
theorem ChAt.lt (h : ChAt w gl o q) : gl < w.heap.size := by obtain ⟨cs, hi, _⟩ := h; exact hi.lt
theorem ChAt.below (h : ChAt w gl o q) (hb : Below w.heap.size w w') : ChAt w' gl o q := by
 obtain ⟨cs, hi, hc⟩ := h
 exact ⟨cs, hi.below hb hi.lt, hc⟩
theorem ChAt.went (h : ChAt w gl o q) (hW : RWent w R r w' R') {cr : Array Value} (hr : Is w r 81 cr) : ChAt w' gl o q := by
 obtain ⟨cs, hi, hc⟩ := h
 exact ⟨cs, hW.is hi hr (by decide), hc⟩
theorem ChAt.ne (h : ChAt w gl o q) {cr : Array Value} (hr : Is w r 81 cr) : gl ≠ r := by
 obtain ⟨cs, hi, hc⟩ := h
 exact hi.type_ne hr (by decide)
theorem ChAt.of {A : Option Addr} {cgs : List Cg} (h : Lain 131 w A (flatG cgs)) {j : Nat} (hj : j < cgs.length) : ∃ gl ol, A = some ⟨gl, ol, none⟩ ∧ ChAt w gl (ol + j * 7) cgs[j] := by
 have hl : (flatG cgs).length = cgs.length * 7 := rows_length (cells := cellsG) (fun _ => rfl) cgs
 obtain ⟨g, off, cs, e, hi, hc⟩ := h (by intro h0; rw [h0] at hl; simp at hl; omega)
 refine ⟨g, off, e, cs, hi, fun i u hu => ?_⟩
 have hi7 : i < 7 := (List.getElem?_eq_some_iff.1 hu).1
 have e2 : (flatG cgs)[j * 7 + i]? = (cellsG cgs[j])[i]? := rows_at cellsG (fun _ => rfl) (List.getElem?_eq_getElem hj) hi7
 have := hc (j * 7 + i) u (e2.trans hu)
 rwa [← Nat.add_assoc] at this
end
theorem tell_step (room : Nat) (s : St) (cgs : List Cg) (seq : Int) {j : Nat} (hj : j < cgs.length) : s.tell room (cgs.take (j + 1)) seq = (s.tell room (cgs.take j) seq).upto room (cgs[j].ev seq) 8 := by
 unfold St.tell; rw [List.take_succ_eq_append_getElem hj, List.foldl_append, List.foldl_cons, List.foldl_nil]
theorem tell_has (room : Nat) (seq : Int) (k : Nat) (u : ByteArray) : ∀ (l : List Cg) (s : St), (s.tell room l seq).has k u = s.has k u
 | [], _ => rfl
 | c :: r, s => by
   show ((s.upto room (c.ev seq) 8).tell room r seq).has k u = _
   rw [tell_has room seq k u r, upto_has]
theorem tellN_wat (room : Nat) (seq : Int) : ∀ (l : List Cg) (s : St), (s.tell room l seq).wat = s.wat
 | [], _ => rfl
 | c :: r, s => by
   show ((s.upto room (c.ev seq) 8).tell room r seq).wat = _
   rw [tellN_wat room seq r, upto_wat]
set_option maxRecDepth 100000 in
set_option maxHeartbeats 4000000 in
theorem rTellN {w : World} {R : Nat → Prop} {r c : Nat} {room : Int} {ps : List Pa} {s0 : St} (h : RefAt w R r room ps s0.que s0.los) {Ac : Option Addr} (cgs : List Cg) (seq : Int) (hg : Lain 131 w Ac (flatG cgs)) (hm : ∀ n, n < 8 → ∀ u, (s0.has n u = true ↔ ((n : Int), u) ∈ ps)) (hp : ps.length ≤ 1000) (hq : ∀ n, n < 8 → (s0.que n).length + cgs.length ≤ 500) :
  Calls Tryz.prog 30 #[.pointer (some ⟨r, 0, none⟩), .slice Ac cgs.length c, .int .u64 seq] w (RDone w R r room ps (s0.tell room.toNat cgs seq).que (s0.tell room.toNat cgs seq).los) := by
 obtain ⟨i0, hE⟩ := RingE.elem
 have HE := Lib.hid hE
 have HA := Lib.hid h
 have HLC := Lib.hid hg
 have HM0 := Lib.hid hm
 have HQ0 := Lib.hid hq
 have HRI : Hid (∃ cr, Is w r 81 cr) := by obtain ⟨_, _, h⟩ := h; exact ⟨_, h.box⟩
 clear h hg hm hq hE
 go_enter Tryz.func30, Tryz.ntmps30
 go_wp2_with fail
 go_loopw [6] (fun i wr => ∃ j : Nat, j ≤ cgs.length ∧ i = .int .i64 j ∧ ∃ R', RefAt wr R' r room ps (s0.tell room.toNat (cgs.take j) seq).que (s0.tell room.toNat (cgs.take j) seq).los ∧ RWent w R r wr R') (fun i _ => cgs.length - (intOf i).toNat)
 case atStart => exact ⟨0, Nat.zero_le _, rfl, R, HA.out, RWent.of_below (Below.refl _ _)⟩
 case round =>
  obtain ⟨j, hj, rfl, R1, hA, hW⟩ := hrel
  have HA1 := Lib.hid hA
  have HW1 := Lib.hid hW
  clear hA hW HA
  by_cases hlt : j < cgs.length
  ·have d0 : decide ((j : Int) < (cgs.length : Int)) = true := by simp; omega
   have hcl : cgs.length ≤ 500 := by have := HQ0.out 0 (by decide); omega
   obtain ⟨gl, ol, rfl, hch⟩ := ChAt.of HLC.out hlt
   have HG := Lib.hid hch
   have HST := Lib.hid (tell_step room.toNat s0 cgs seq hlt)
   have HM : Hid (∀ n, n < 8 → ∀ u, ((s0.tell room.toNat (cgs.take j) seq).has n u = true ↔ ((n : Int), u) ∈ ps)) := fun n hn u => by rw [tell_has]; exact HM0.out n hn u
   have HQ : Hid (∀ n, n < 8 → ((s0.tell room.toNat (cgs.take j) seq).que n).length ≤ 500) := fun n hn => by
    have h1 := tell_le room.toNat seq n (cgs.take j) s0
    have h2 := HQ0.out n hn
    simp only [List.length_take] at h1
    omega
   generalize s0.tell room.toNat (cgs.take j) seq = s at *
   generalize cgs[j] = cg at *
   clear hch
   go_wp2_with fail
   go_loopw [7] (fun i wx => TellI w R r room ps s (cg.ev seq) i wx) (fun i _ => 8 - (intOf i).toNat)
   case atStart => exact ⟨0, Nat.zero_le _, rfl, R1, HA1.out, HW1.out⟩
   case round =>
    clear HA1 HW1
    obtain ⟨k, hk8, rfl, R2, hA, hW⟩ := hrel
    have HA2 := Lib.hid hA
    have HW2 := Lib.hid hW
    clear hA hW
    by_cases hk : k < 8
    ·have d1 : decide ((k : Int) < 8) = true := by simp; omega
     obtain ⟨cr, hcr⟩ := HRI.out
     have HG2 := Lib.hid (HG.out.went HW2.out hcr)
     obtain ⟨y0, y1, y2, y3, y4, y5, y6⟩ := HG2.out.cg
     have lg := HG2.out.lt
     have HHS : Hid ((s.upto room.toNat (cg.ev seq) k).has k cg.us = true ↔ ((k : Int), cg.us) ∈ ps) := by show _ ↔ _; rw [upto_has]; exact HM.out k hk cg.us
     have HE1 : Hid (s.upto room.toNat (cg.ev seq) (k + 1) = (s.upto room.toNat (cg.ev seq) k).put1 room.toNat k (cg.ev seq)) := rfl
     have hql : ((s.upto room.toNat (cg.ev seq) k).que k).length ≤ 501 := by have h1 := upto_le room.toNat s (cg.ev seq) k k; have h2 := HQ.out k hk; omega
     generalize s.upto room.toNat (cg.ev seq) k = s1 at *
     have HRW := Lib.hid (rWatching HA2.out hp (k : Int) cg.us (res := s1.has k cg.us) HHS.out)
     clear hcr
     go_wp2_with fail
     refine HRW.out.mono ?_
     rintro e w3 ⟨rfl, hb⟩
     have HA3 := Lib.hid (HA2.out.below hb)
     have HW3 := Lib.hid (HW2.out.trans (RWent.of_below (R := R2) (r := r) hb))
     have HG3 := Lib.hid (HG2.out.below hb)
     have hbs := hb.size
     clear hb HRW HA2 HW2 y0 y1 y2 y3 y4 y5 y6
     cases hh : s1.has k cg.us with
     | false =>
       have HS : Hid (s1.put1 room.toNat k (cg.ev seq) = s1) := by show _ = _; unfold St.put1; rw [if_neg (by rw [hh]; simp)]
       go_wp2_with fail
       go_roundw
       case rel =>
        exact ⟨k + 1, by omega, by go_num, R2, by rw [HE1.out, HS.out]; exact HA3.out, HW3.out⟩
       case measure => simp [intOf]; omega
     | true =>
       have HS : Hid (s1.put1 room.toNat k (cg.ev seq) = { s1 with que := upd s1.que k (putL room.toNat (s1.que k) (cg.ev seq)), los := upd s1.los k (s1.los k || decide (room.toNat ≤ (s1.que k).length)) }) := by show _ = _; unfold St.put1; rw [if_pos hh]
       obtain ⟨vp, vq, hv⟩ := HA3.out
       obtain ⟨A, cq, hqv, hlq⟩ := hv.qu k hk
       have c1 : w3.cell? ⟨r, 2 + k, none⟩ = some (.slice A (s1.que k).length cq) := (hv.box.cell _).trans (by have := cellsRf_q room vp vq s1.los hk; rw [hqv] at this; simpa using this)
       have c2 : w3.cell? ⟨r, 0, none⟩ = some (.int .i64 room) := hv.box.cell' rfl
       have c3 : w3.cell? ⟨r, 10 + k, none⟩ = some (.bool (s1.los k)) := (hv.box.cell _).trans (by simpa using cellsRf_l room vp vq s1.los hk)
       have f1 := hv.box.frozen (2 + k)
       have f3 := hv.box.frozen (10 + k)
       have l1 := hv.box.lt
       have hk7 : k ≤ 7 := by omega
       have HV := Lib.hid hv
       have HLQ := Lib.hid hlq
       obtain ⟨y0, y1, y2, y3, y4, y5, y6⟩ := HG3.out.cg
       have lg3 := HG3.out.lt
       clear hv hqv hlq HA3
       by_cases hfull : room ≤ ((s1.que k).length : Int)
       ·have d2 : decide (room ≤ ((s1.que k).length : Int)) = true := by simpa using hfull
        have HFU : Hid (putL room.toNat (s1.que k) (cg.ev seq) = s1.que k ∧ (s1.los k || decide (room.toNat ≤ (s1.que k).length)) = true) := by
         refine ⟨putL_no (by omega), ?_⟩
         rw [Bool.or_eq_true]; right; simp; omega
        go_wp2_with fail
        go_quiet (fail)
        have hbq : Below w3.heap.size w3 (w3.drewN nq) := Law.below_drewN (Below.refl _ w3) nq
        have HV4 := Lib.hid (HV.out.below hbq)
        have HW4 := Lib.hid (HW3.out.trans (RWent.of_below (R := R2) (r := r) hbq))
        have HG4 := Lib.hid (HG3.out.below hbq)
        have HL4 : Hid (LieR R2 (w3.drewN nq) A (flatE (s1.que k))) := HLQ.out.touch (Law.Touch.of_below hbq fun _ => False) (fun _ _ h => h) HV.out.ok
        have a1 : (w3.drewN nq).cell? ⟨r, 2 + k, none⟩ = some (.slice A (s1.que k).length cq) := c1
        have a3 : (w3.drewN nq).cell? ⟨r, 10 + k, none⟩ = some (.bool (s1.los k)) := c3
        clear hbq HV HW3 HG3 HLQ c1 c2 c3 f1 f3 l1 y0 y1 y2 y3 y4 y5 y6 lg3
        generalize w3.drewN nq = W4 at *
        have f1 := HV4.out.box.frozen (2 + k)
        have f3 := HV4.out.box.frozen (10 + k)
        have l1 := HV4.out.box.lt
        obtain ⟨y0, y1, y2, y3, y4, y5, y6⟩ := HG4.out.cg
        have lg3 := HG4.out.lt
        have HMK := Lib.hid (HV4.out.mark hk true)
        have HTM : Hid (RWent W4 R2 r (W4.setCell ⟨r, 10 + k, none⟩ (.bool true)) R2) := ⟨Law.Touch.store (T := fun n => n = r) W4 ⟨r, 10 + k, none⟩ _ rfl, fun _ h => .inl h⟩
        go_wp2_with fail
        go_roundw
        case rel =>
         refine ⟨k + 1, by omega, by go_num, R2, ?_, HW4.out.trans HTM.out⟩
         rw [HE1.out, HS.out]
         refine RefAt.congr ⟨_, _, HMK.out⟩ (fun i => ?_) (fun i => ?_)
         ·show _ = upd s1.que k _ i
          rw [HFU.out.1]
          by_cases e : i = k
          ·subst e; rw [upd_same]
          ·rw [upd_other _ _ e]
         ·show _ = upd s1.los k _ i
          rw [HFU.out.2]
        case measure => simp [intOf]; omega
       ·have d2 : decide (room ≤ ((s1.que k).length : Int)) = false := by simpa using hfull
        go_wp2_with fail
        go_quiet (fail)
        have hbq : Below w3.heap.size w3 (w3.drewN nq) := Law.below_drewN (Below.refl _ w3) nq
        have HV4 := Lib.hid (HV.out.below hbq)
        have HW4 := Lib.hid (HW3.out.trans (RWent.of_below (R := R2) (r := r) hbq))
        have HG4 := Lib.hid (HG3.out.below hbq)
        have HL4 : Hid (LieR R2 (w3.drewN nq) A (flatE (s1.que k))) := HLQ.out.touch (Law.Touch.of_below hbq fun _ => False) (fun _ _ h => h) HV.out.ok
        have a1 : (w3.drewN nq).cell? ⟨r, 2 + k, none⟩ = some (.slice A (s1.que k).length cq) := c1
        have a3 : (w3.drewN nq).cell? ⟨r, 10 + k, none⟩ = some (.bool (s1.los k)) := c3
        clear hbq HV HW3 HG3 HLQ c1 c2 c3 f1 f3 l1 y0 y1 y2 y3 y4 y5 y6 lg3
        generalize w3.drewN nq = W4 at *
        have f1 := HV4.out.box.frozen (2 + k)
        have f3 := HV4.out.box.frozen (10 + k)
        have l1 := HV4.out.box.lt
        obtain ⟨y0, y1, y2, y3, y4, y5, y6⟩ := HG4.out.cg
        have lg3 := HG4.out.lt
        have HFU : Hid (putL room.toNat (s1.que k) (cg.ev seq) = s1.que k ++ [cg.ev seq] ∧ (s1.los k || decide (room.toNat ≤ (s1.que k).length)) = s1.los k) := by
         refine ⟨putL_yes (by omega), ?_⟩
         rw [decide_eq_false (by omega), Bool.or_false]
        have HSQ := Lib.hid (HL4.out.seq HV4.out.ok)
        have HK : Hid (∀ w', Below W4.heap.size W4 w' → (fun w' => w'.cell? ⟨gl, ol + j * 7, none⟩ = some (.string cg.us) ∧ w'.cell? ⟨gl, ol + j * 7 + 1, none⟩ = some (.int .i64 cg.o1) ∧ w'.cell? ⟨gl, ol + j * 7 + 2, none⟩ = some (.int .i64 cg.o2) ∧ w'.cell? ⟨gl, ol + j * 7 + 3, none⟩ = some (.int .i64 cg.o3) ∧ w'.cell? ⟨gl, ol + j * 7 + 4, none⟩ = some (.int .i64 cg.n1) ∧ w'.cell? ⟨gl, ol + j * 7 + 5, none⟩ = some (.int .i64 cg.n2) ∧ w'.cell? ⟨gl, ol + j * 7 + 6, none⟩ = some (.int .i64 cg.n3)) w') := fun w' h => ⟨(h.cell (p := ⟨gl, ol + j * 7, none⟩) lg3).trans y0, (h.cell (p := ⟨gl, ol + j * 7 + 1, none⟩) lg3).trans y1, (h.cell (p := ⟨gl, ol + j * 7 + 2, none⟩) lg3).trans y2, (h.cell (p := ⟨gl, ol + j * 7 + 3, none⟩) lg3).trans y3, (h.cell (p := ⟨gl, ol + j * 7 + 4, none⟩) lg3).trans y4, (h.cell (p := ⟨gl, ol + j * 7 + 5, none⟩) lg3).trans y5, (h.cell (p := ⟨gl, ol + j * 7 + 6, none⟩) lg3).trans y6⟩
        have hglr : gl ≠ r := HG4.out.ne HV4.out.box
        have HK2 : Hid (∀ w', Below W4.heap.size W4 w' → ∀ v, (fun w' => w'.cell? ⟨gl, ol + j * 7, none⟩ = some (.string cg.us) ∧ w'.cell? ⟨gl, ol + j * 7 + 1, none⟩ = some (.int .i64 cg.o1) ∧ w'.cell? ⟨gl, ol + j * 7 + 2, none⟩ = some (.int .i64 cg.o2) ∧ w'.cell? ⟨gl, ol + j * 7 + 3, none⟩ = some (.int .i64 cg.o3) ∧ w'.cell? ⟨gl, ol + j * 7 + 4, none⟩ = some (.int .i64 cg.n1) ∧ w'.cell? ⟨gl, ol + j * 7 + 5, none⟩ = some (.int .i64 cg.n2) ∧ w'.cell? ⟨gl, ol + j * 7 + 6, none⟩ = some (.int .i64 cg.n3)) (w'.setCell ⟨r, 2 + k, none⟩ v)) := fun w' h v => ⟨(World.cell?_of_block (Below.heap_setCell w' ⟨r, 2 + k, none⟩ v gl hglr)).trans ((h.cell (p := ⟨gl, ol + j * 7, none⟩) lg3).trans y0), (World.cell?_of_block (Below.heap_setCell w' ⟨r, 2 + k, none⟩ v gl hglr)).trans ((h.cell (p := ⟨gl, ol + j * 7 + 1, none⟩) lg3).trans y1), (World.cell?_of_block (Below.heap_setCell w' ⟨r, 2 + k, none⟩ v gl hglr)).trans ((h.cell (p := ⟨gl, ol + j * 7 + 2, none⟩) lg3).trans y2), (World.cell?_of_block (Below.heap_setCell w' ⟨r, 2 + k, none⟩ v gl hglr)).trans ((h.cell (p := ⟨gl, ol + j * 7 + 3, none⟩) lg3).trans y3), (World.cell?_of_block (Below.heap_setCell w' ⟨r, 2 + k, none⟩ v gl hglr)).trans ((h.cell (p := ⟨gl, ol + j * 7 + 4, none⟩) lg3).trans y4), (World.cell?_of_block (Below.heap_setCell w' ⟨r, 2 + k, none⟩ v gl hglr)).trans ((h.cell (p := ⟨gl, ol + j * 7 + 5, none⟩) lg3).trans y5), (World.cell?_of_block (Below.heap_setCell w' ⟨r, 2 + k, none⟩ v gl hglr)).trans ((h.cell (p := ⟨gl, ol + j * 7 + 6, none⟩) lg3).trans y6)⟩
        have K0 : Below W4.heap.size W4 W4.drew := Law.below_drewN (Below.refl _ W4) 1
        go_wp2_with fail
        refine wp_region_held_drew (S := fun w' => w'.cell? ⟨gl, ol + j * 7, none⟩ = some (.string cg.us) ∧ w'.cell? ⟨gl, ol + j * 7 + 1, none⟩ = some (.int .i64 cg.o1) ∧ w'.cell? ⟨gl, ol + j * 7 + 2, none⟩ = some (.int .i64 cg.o2) ∧ w'.cell? ⟨gl, ol + j * 7 + 3, none⟩ = some (.int .i64 cg.o3) ∧ w'.cell? ⟨gl, ol + j * 7 + 4, none⟩ = some (.int .i64 cg.n1) ∧ w'.cell? ⟨gl, ol + j * 7 + 5, none⟩ = some (.int .i64 cg.n2) ∧ w'.cell? ⟨gl, ol + j * 7 + 6, none⟩ = some (.int .i64 cg.n3)) (by kernel_rfl) (HK.out _ K0) (fun hS => ?_)
        have HB := Lib.hid K0
        clear K0
        generalize W4.drew = Y0 at *
        refine Go.Law.tk 0 ⟨some 44, .move (.tmp 0), _, _, _, _⟩ (v := .pointer (some ⟨r, 0, none⟩)) hS ?_ ?_
        ·intro w' hSw
         go_simp
        try simp only [Go.Law.pz]
        refine Go.Law.tk 1 ⟨some 45, .move (.tmp 7), _, _, _, _⟩ (v := .int .i64 (k : Int)) hS ?_ ?_
        ·intro w' hSw
         go_simp
        try simp only [Go.Law.pz]
        refine Go.Law.tk 3 ⟨some 47, .move (.tmp 0), _, _, _, _⟩ (v := .pointer (some ⟨r, 0, none⟩)) hS ?_ ?_
        ·intro w' hSw
         go_simp
        try simp only [Go.Law.pz]
        refine Go.Law.tk 4 ⟨some 48, .move (.tmp 7), _, _, _, _⟩ (v := .int .i64 (k : Int)) hS ?_ ?_
        ·intro w' hSw
         go_simp
        try simp only [Go.Law.pz]
        refine Go.Law.tk 5 ⟨some 49, .nilCheck (.tmp 47), _, _, _, _⟩ (v := .pointer (some ⟨r, 0, none⟩)) hS ?_ ?_
        ·intro w' hSw
         go_simp
        try simp only [Go.Law.pz]
        refine Go.Law.tk 6 ⟨some 50, .fieldAddr 81 (.tmp 49) 2, _, _, _, _⟩ (v := .pointer (some ⟨r, 2, none⟩)) hS ?_ ?_
        ·intro w' hSw
         go_simp
        try simp only [Go.Law.pz]
        refine Go.Law.tk 7 ⟨some 51, .indexAddr 78 (.tmp 50) (.tmp 48), _, _, _, _⟩ (v := .pointer (some ⟨r, 2 + k, none⟩)) hS ?_ ?_
        ·intro w' hSw
         go_simp; (try (intro h8; omega))
        try simp only [Go.Law.pz]
        refine Go.Law.tk 10 ⟨some 54, .move (.tmp 1), _, _, _, _⟩ (v := .slice (some ⟨gl, ol, none⟩) cgs.length c) hS ?_ ?_
        ·intro w' hSw
         go_simp
        try simp only [Go.Law.pz]
        refine Go.Law.tk 11 ⟨some 55, .move (.tmp 6), _, _, _, _⟩ (v := .int .i64 (j : Int)) hS ?_ ?_
        ·intro w' hSw
         go_simp
        try simp only [Go.Law.pz]
        refine Go.Law.tk 12 ⟨some 56, .indexAddr 85 (.tmp 54) (.tmp 55), _, _, _, _⟩ (v := .pointer (some ⟨gl, ol + j * 7, none⟩)) hS ?_ ?_
        ·intro w' hSw
         go_simp; (try (intro h8; omega))
        try simp only [Go.Law.pz]
        refine Go.Law.tk 13 ⟨some 57, .fieldAddr 131 (.tmp 56) 0, _, _, _, _⟩ (v := .pointer (some ⟨gl, ol + j * 7, none⟩)) hS ?_ ?_
        ·intro w' hSw
         go_simp
        try simp only [Go.Law.pz]
        refine Go.Law.tk 14 ⟨some 58, .load 9 (.tmp 57), _, _, _, _⟩ (v := .string cg.us) hS ?_ ?_
        ·intro w' hSw
         go_simp
        try simp only [Go.Law.pz]
        refine Go.Law.tk 15 ⟨some 59, .move (.tmp 1), _, _, _, _⟩ (v := .slice (some ⟨gl, ol, none⟩) cgs.length c) hS ?_ ?_
        ·intro w' hSw
         go_simp
        try simp only [Go.Law.pz]
        refine Go.Law.tk 16 ⟨some 60, .move (.tmp 6), _, _, _, _⟩ (v := .int .i64 (j : Int)) hS ?_ ?_
        ·intro w' hSw
         go_simp
        try simp only [Go.Law.pz]
        refine Go.Law.tk 17 ⟨some 61, .indexAddr 85 (.tmp 59) (.tmp 60), _, _, _, _⟩ (v := .pointer (some ⟨gl, ol + j * 7, none⟩)) hS ?_ ?_
        ·intro w' hSw
         go_simp; (try (intro h8; omega))
        try simp only [Go.Law.pz]
        refine Go.Law.tk 18 ⟨some 62, .fieldAddr 131 (.tmp 61) 1, _, _, _, _⟩ (v := .pointer (some ⟨gl, ol + j * 7 + 1, none⟩)) hS ?_ ?_
        ·intro w' hSw
         go_simp
        try simp only [Go.Law.pz]
        refine Go.Law.tk 19 ⟨some 63, .load 57 (.tmp 62), _, _, _, _⟩ (v := .agg #[.int .i64 cg.o1, .int .i64 cg.o2, .int .i64 cg.o3]) hS ?_ ?_
        ·intro w' hSw
         go_simp
        try simp only [Go.Law.pz]
        refine Go.Law.tk 20 ⟨some 64, .move (.tmp 1), _, _, _, _⟩ (v := .slice (some ⟨gl, ol, none⟩) cgs.length c) hS ?_ ?_
        ·intro w' hSw
         go_simp
        try simp only [Go.Law.pz]
        refine Go.Law.tk 21 ⟨some 65, .move (.tmp 6), _, _, _, _⟩ (v := .int .i64 (j : Int)) hS ?_ ?_
        ·intro w' hSw
         go_simp
        try simp only [Go.Law.pz]
        refine Go.Law.tk 22 ⟨some 66, .indexAddr 85 (.tmp 64) (.tmp 65), _, _, _, _⟩ (v := .pointer (some ⟨gl, ol + j * 7, none⟩)) hS ?_ ?_
        ·intro w' hSw
         go_simp; (try (intro h8; omega))
        try simp only [Go.Law.pz]
        refine Go.Law.tk 23 ⟨some 67, .fieldAddr 131 (.tmp 66) 2, _, _, _, _⟩ (v := .pointer (some ⟨gl, ol + j * 7 + 4, none⟩)) hS ?_ ?_
        ·intro w' hSw
         go_simp
        try simp only [Go.Law.pz]
        refine Go.Law.tk 24 ⟨some 68, .load 57 (.tmp 67), _, _, _, _⟩ (v := .agg #[.int .i64 cg.n1, .int .i64 cg.n2, .int .i64 cg.n3]) hS ?_ ?_
        ·intro w' hSw
         go_simp
        try simp only [Go.Law.pz]
        refine Go.Law.tk 25 ⟨some 69, .move (.tmp 2), _, _, _, _⟩ (v := .int .u64 seq) hS ?_ ?_
        ·intro w' hSw
         go_simp
        try simp only [Go.Law.pz]
        refine Go.Law.tk 26 ⟨some 70, .build 63 #[(0, .tmp 58), (1, .tmp 63), (2, .tmp 68), (3, .tmp 69)], _, _, _, _⟩ (v := .agg #[.string cg.us, .int .i64 cg.o1, .int .i64 cg.o2, .int .i64 cg.o3, .int .i64 cg.n1, .int .i64 cg.n2, .int .i64 cg.n3, .int .u64 seq]) hS ?_ ?_
        ·intro w' hSw
         go_simp
        try simp only [Go.Law.pz]
        refine Go.Law.tk 29 ⟨some 73, .nilCheck (.tmp 44), _, _, _, _⟩ (v := .pointer (some ⟨r, 0, none⟩)) hS ?_ ?_
        ·intro w' hSw
         go_simp
        try simp only [Go.Law.pz]
        refine Go.Law.tk 30 ⟨some 74, .fieldAddr 81 (.tmp 73) 2, _, _, _, _⟩ (v := .pointer (some ⟨r, 2, none⟩)) hS ?_ ?_
        ·intro w' hSw
         go_simp
        try simp only [Go.Law.pz]
        clear hS
        refine wpAnyH_ready (rs := [2, 8, 27]) (by kernel_rfl) (by simp) ?_
        refine AllReadyH.cons (o := ⟨some 46, .buildSlice 41 0 #[], _, _, _, _⟩) rfl (fun K hK => ?_) ?_
        ·go_simp
         refine hK.out _ _ (HK.out _ (HB.out.alloc HB.out.size (.cells #[] 63))) (fun _ => ?_)
         clear hK K
         try simp only [Go.Law.pz]
         have HB2 := Lib.hid (HB.out.alloc HB.out.size (.cells #[] 63))
         have sb := HB.out.size
         have OA2 := Lib.hid (own_emptyN Y0 63 (base := W4.heap.size) sb)
         have na : W4.heap.size ≤ Y0.heap.size := sb
         have la2 : Y0.heap.size < (Y0.alloc (.cells #[] 63)).heap.size := by simp
         generalize Y0.alloc (.cells #[] 63) = Y1 at *
         clear HB sb
         generalize Y0.heap.size = ga at *
         have HB := HB2
         clear HB2
         have OA := OA2
         clear OA2
         have la := la2
         clear la2
         refine wpAnyH_ready (rs := [8, 27]) (by kernel_rfl) (by simp) ?_
         refine AllReadyH.cons (o := ⟨some 52, .load 41 (.tmp 51), _, _, _, _⟩) rfl (fun K hK => ?_) ?_
         ·have cl : Y1.cell? ⟨r, 2 + k, none⟩ = some (.slice A (s1.que k).length cq) := (HB.out.cell (p := ⟨r, 2 + k, none⟩) l1).trans a1
          go_simp
          refine hK.out _ _ (HK.out _ HB.out) (fun _ => ?_)
          clear hK K cl
          try simp only [Go.Law.pz]
          refine wpAnyH_ready (rs := [9, 27]) (by kernel_rfl) (by simp) ?_
          refine AllReadyH.cons (o := ⟨some 53, .call { callee := .builtin .append, args := #[.tmp 46, .tmp 52], argTypes := #[41, 41] }, _, _, _, _⟩) rfl (fun K hK => ?_) ?_
          ·refine Law.step_append_seq _ W4.heap.size 41 rfl (.tmp 46) (.tmp 52) rfl HE.out (.slice (some ⟨ga, 0, none⟩) 0 0) 0 [] (by simp [Act.eval]) (by exact OA.out) 0 W4.heap.size A (s1.que k).length cq (flatE (s1.que k)) (by simp [Act.eval]) (flatE_length _) (HSQ.out.below HB.out) (flatE_one _) (by unfold maxLen; omega) (by omega) HB.out.size ?_
           intro v3 Y3 own grow
           have hb2 : Below W4.heap.size W4 Y3 := HB.out.grown grow HB.out.size (fun g hg => by have h9 : ga = g := Option.some.inj hg; omega)
           refine hK.out _ _ (HK.out _ hb2) (fun _ => ?_)
           clear hK K
           try simp only [Go.Law.pz]
           have OA2 : Hid (Y3.ownsRow W4.heap.size 63 8 v3 (s1.que k).length (flatE (s1.que k))) := by show World.ownsRow _ _ _ _ _ _ _; simpa using own
           have HB2 := Lib.hid hb2
           obtain ⟨A5, c5, rfl, _⟩ := own_shape OA2.out
           clear own grow hb2 HB OA la
           have HB := HB2
           have OA := OA2
           clear HB2 OA2
           refine wpAnyH_ready (rs := [27]) (by kernel_rfl) (by simp) ?_
           refine AllReadyH.cons (o := ⟨some 71, .buildSlice 41 1 #[(0, .tmp 70)], _, _, _, _⟩) rfl (fun K hK => ?_) AllReadyH.nil
           go_simp
           refine hK.out _ _ (HK.out _ (HB.out.alloc HB.out.size (.cells #[.string cg.us, .int .i64 cg.o1, .int .i64 cg.o2, .int .i64 cg.o3, .int .i64 cg.n1, .int .i64 cg.n2, .int .i64 cg.n3, .int .u64 seq] 63))) (fun _ => ?_)
           clear hK K
           try simp only [Go.Law.pz]
           have HB2 := Lib.hid (HB.out.alloc HB.out.size (.cells #[.string cg.us, .int .i64 cg.o1, .int .i64 cg.o2, .int .i64 cg.o3, .int .i64 cg.n1, .int .i64 cg.n2, .int .i64 cg.n3, .int .u64 seq] 63))
           have sb := HB.out.size
           have OA2 := Lib.hid (OA.out.alloc (.cells #[.string cg.us, .int .i64 cg.o1, .int .i64 cg.o2, .int .i64 cg.o3, .int .i64 cg.n1, .int .i64 cg.n2, .int .i64 cg.n3, .int .u64 seq] 63))
           have IC2 := Lib.hid (Is.new Y3 63 #[.string cg.us, .int .i64 cg.o1, .int .i64 cg.o2, .int .i64 cg.o3, .int .i64 cg.n1, .int .i64 cg.n2, .int .i64 cg.n3, .int .u64 seq] rfl)
           generalize Y3.alloc (.cells #[.string cg.us, .int .i64 cg.o1, .int .i64 cg.o2, .int .i64 cg.o3, .int .i64 cg.n1, .int .i64 cg.n2, .int .i64 cg.n3, .int .u64 seq] 63) = Y4 at *
           clear HB sb OA
           generalize Y3.heap.size = gc at *
           have HB := HB2
           clear HB2
           have OA := OA2
           clear OA2
           have IC := IC2
           clear IC2
           refine wpAnyH_ready (rs := [28]) (by kernel_rfl) (by simp) ?_
           refine AllReadyH.cons (o := ⟨some 72, .call { callee := .builtin .append, args := #[.tmp 53, .tmp 71], argTypes := #[41, 41] }, _, _, _, _⟩) rfl (fun K hK => ?_) AllReadyH.nil
           refine Law.step_append_seq _ W4.heap.size 41 rfl (.tmp 53) (.tmp 71) rfl HE.out (.slice A5 (s1.que k).length c5) (s1.que k).length (flatE (s1.que k)) (by simp [Act.eval]) (by exact OA.out) gc (gc + 1) (some ⟨gc, 0, none⟩) 1 1 (cellsE (cg.ev seq)) (by simp [Act.eval]) rfl (seq_box IC.out) (one_E _) (by unfold maxLen; omega) (by omega) HB.out.size ?_
           intro v5 Y5 own grow
           have hb2 : Below W4.heap.size W4 Y5 := HB.out.grown grow HB.out.size (fun g hg => (OA.out.lt g hg).1)
           refine hK.out _ _ (HK.out _ hb2) (fun _ => ?_)
           clear hK K
           try simp only [Go.Law.pz]
           have OA2 : Hid (Y5.ownsRow W4.heap.size 63 8 v5 ((s1.que k).length + 1) (flatE (s1.que k ++ [cg.ev seq]))) := by show World.ownsRow _ _ _ _ _ _ _; rw [flatE_snoc]; exact own
           have HB2 := Lib.hid hb2
           obtain ⟨A7, c7, rfl, _⟩ := own_shape OA2.out
           clear own grow hb2 HB OA IC
           have HB := HB2
           have OA := OA2
           clear HB2 OA2
           refine Go.Law.tk 31 ⟨some 75, .indexAddr 78 (.tmp 74) (.tmp 45), _, _, _, _⟩ (v := .pointer (some ⟨r, 2 + k, none⟩)) (HK.out _ HB.out) ?_ ?_
           ·intro w' hSw
            go_simp; (try (intro h8; omega))
           try simp only [Go.Law.pz]
           refine wpAnyH_ready (rs := [32]) (by kernel_rfl) (by simp) ?_
           refine AllReadyH.cons (o := ⟨none, .store 41 (.tmp 75) (.tmp 72), _, _, _, _⟩) rfl (fun K hK => ?_) AllReadyH.nil
           have I7 := HV4.out.box.below HB.out HV4.out.box.lt
           have b1 : Y5.cell? ⟨r, 2 + k, none⟩ = some (.slice A (s1.que k).length cq) := (HB.out.cell (p := ⟨r, 2 + k, none⟩) l1).trans a1
           have g1 := I7.frozen (2 + k)
           have k1 := I7.lt
           clear I7
           go_simp
           refine hK.out _ _ (HK2.out _ HB.out _) (fun _ => ?_)
           clear hK K b1 g1 k1
           try simp only [Go.Law.pz]
           refine wpAnyH_done (by kernel_rfl) ?_ _
           have HFIN := Lib.hid (room_left HV4.out hk HB.out OA.out)
           go_wp2_with fail
           go_roundw
           case rel =>
            obtain ⟨R7, hR7, hW7⟩ := HFIN.out
            refine ⟨k + 1, by omega, by go_num, R7, ?_, HW4.out.trans hW7⟩
            rw [HE1.out, HS.out]
            refine hR7.congr (fun i => ?_) (fun i => ?_)
            ·show _ = upd s1.que k _ i
             rw [HFU.out.1]
            ·show _ = upd s1.los k _ i
             rw [HFU.out.2]
             by_cases e : i = k
             ·subst e; rw [upd_same]
             ·rw [upd_other _ _ e]
           case measure => simp [intOf]; omega
          refine AllReadyH.cons (o := ⟨some 71, .buildSlice 41 1 #[(0, .tmp 70)], _, _, _, _⟩) rfl (fun K hK => ?_) AllReadyH.nil
          go_simp
          refine hK.out _ _ (HK.out _ (HB.out.alloc HB.out.size (.cells #[.string cg.us, .int .i64 cg.o1, .int .i64 cg.o2, .int .i64 cg.o3, .int .i64 cg.n1, .int .i64 cg.n2, .int .i64 cg.n3, .int .u64 seq] 63))) (fun _ => ?_)
          clear hK K
          try simp only [Go.Law.pz]
          have HB2 := Lib.hid (HB.out.alloc HB.out.size (.cells #[.string cg.us, .int .i64 cg.o1, .int .i64 cg.o2, .int .i64 cg.o3, .int .i64 cg.n1, .int .i64 cg.n2, .int .i64 cg.n3, .int .u64 seq] 63))
          have sb := HB.out.size
          have OA2 := Lib.hid (OA.out.alloc (.cells #[.string cg.us, .int .i64 cg.o1, .int .i64 cg.o2, .int .i64 cg.o3, .int .i64 cg.n1, .int .i64 cg.n2, .int .i64 cg.n3, .int .u64 seq] 63))
          have IC2 := Lib.hid (Is.new Y1 63 #[.string cg.us, .int .i64 cg.o1, .int .i64 cg.o2, .int .i64 cg.o3, .int .i64 cg.n1, .int .i64 cg.n2, .int .i64 cg.n3, .int .u64 seq] rfl)
          have nac : ga ≠ Y1.heap.size := by omega
          have la2 : ga < (Y1.alloc (.cells #[.string cg.us, .int .i64 cg.o1, .int .i64 cg.o2, .int .i64 cg.o3, .int .i64 cg.n1, .int .i64 cg.n2, .int .i64 cg.n3, .int .u64 seq] 63)).heap.size := by simp; omega
          generalize Y1.alloc (.cells #[.string cg.us, .int .i64 cg.o1, .int .i64 cg.o2, .int .i64 cg.o3, .int .i64 cg.n1, .int .i64 cg.n2, .int .i64 cg.n3, .int .u64 seq] 63) = Y7 at *
          clear HB sb OA la
          generalize Y1.heap.size = gc at *
          have HB := HB2
          clear HB2
          have OA := OA2
          clear OA2
          have IC := IC2
          clear IC2
          have la := la2
          clear la2
          refine wpAnyH_ready (rs := [9]) (by kernel_rfl) (by simp) ?_
          refine AllReadyH.cons (o := ⟨some 53, .call { callee := .builtin .append, args := #[.tmp 46, .tmp 52], argTypes := #[41, 41] }, _, _, _, _⟩) rfl (fun K hK => ?_) AllReadyH.nil
          refine Law.step_append_seq _ W4.heap.size 41 rfl (.tmp 46) (.tmp 52) rfl HE.out (.slice (some ⟨ga, 0, none⟩) 0 0) 0 [] (by simp [Act.eval]) (by exact OA.out) 0 W4.heap.size A (s1.que k).length cq (flatE (s1.que k)) (by simp [Act.eval]) (flatE_length _) (HSQ.out.below HB.out) (flatE_one _) (by unfold maxLen; omega) (by omega) HB.out.size ?_
          intro v8 Y8 own grow
          have hb2 : Below W4.heap.size W4 Y8 := HB.out.grown grow HB.out.size (fun g hg => by have h9 : ga = g := Option.some.inj hg; omega)
          refine hK.out _ _ (HK.out _ hb2) (fun _ => ?_)
          clear hK K
          try simp only [Go.Law.pz]
          have OA2 : Hid (Y8.ownsRow W4.heap.size 63 8 v8 (s1.que k).length (flatE (s1.que k))) := by show World.ownsRow _ _ _ _ _ _ _; simpa using own
          have HB2 := Lib.hid hb2
          have IC2 : Hid (Is Y8 gc 63 #[.string cg.us, .int .i64 cg.o1, .int .i64 cg.o2, .int .i64 cg.o3, .int .i64 cg.n1, .int .i64 cg.n2, .int .i64 cg.n3, .int .u64 seq]) := (grow.block gc IC.out.lt (fun h => nac (Option.some.inj h).symm)).trans IC.out
          obtain ⟨A5, c5, rfl, _⟩ := own_shape OA2.out
          clear own grow hb2 HB OA la IC nac
          have HB := HB2
          have OA := OA2
          clear HB2 OA2
          have IC := IC2
          clear IC2
          refine wpAnyH_ready (rs := [28]) (by kernel_rfl) (by simp) ?_
          refine AllReadyH.cons (o := ⟨some 72, .call { callee := .builtin .append, args := #[.tmp 53, .tmp 71], argTypes := #[41, 41] }, _, _, _, _⟩) rfl (fun K hK => ?_) AllReadyH.nil
          refine Law.step_append_seq _ W4.heap.size 41 rfl (.tmp 53) (.tmp 71) rfl HE.out (.slice A5 (s1.que k).length c5) (s1.que k).length (flatE (s1.que k)) (by simp [Act.eval]) (by exact OA.out) gc (gc + 1) (some ⟨gc, 0, none⟩) 1 1 (cellsE (cg.ev seq)) (by simp [Act.eval]) rfl (seq_box IC.out) (one_E _) (by unfold maxLen; omega) (by omega) HB.out.size ?_
          intro v9 Y9 own grow
          have hb2 : Below W4.heap.size W4 Y9 := HB.out.grown grow HB.out.size (fun g hg => (OA.out.lt g hg).1)
          refine hK.out _ _ (HK.out _ hb2) (fun _ => ?_)
          clear hK K
          try simp only [Go.Law.pz]
          have OA2 : Hid (Y9.ownsRow W4.heap.size 63 8 v9 ((s1.que k).length + 1) (flatE (s1.que k ++ [cg.ev seq]))) := by show World.ownsRow _ _ _ _ _ _ _; rw [flatE_snoc]; exact own
          have HB2 := Lib.hid hb2
          obtain ⟨A7, c7, rfl, _⟩ := own_shape OA2.out
          clear own grow hb2 HB OA IC
          have HB := HB2
          have OA := OA2
          clear HB2 OA2
          refine Go.Law.tk 31 ⟨some 75, .indexAddr 78 (.tmp 74) (.tmp 45), _, _, _, _⟩ (v := .pointer (some ⟨r, 2 + k, none⟩)) (HK.out _ HB.out) ?_ ?_
          ·intro w' hSw
           go_simp; (try (intro h8; omega))
          try simp only [Go.Law.pz]
          refine wpAnyH_ready (rs := [32]) (by kernel_rfl) (by simp) ?_
          refine AllReadyH.cons (o := ⟨none, .store 41 (.tmp 75) (.tmp 72), _, _, _, _⟩) rfl (fun K hK => ?_) AllReadyH.nil
          have I7 := HV4.out.box.below HB.out HV4.out.box.lt
          have b1 : Y9.cell? ⟨r, 2 + k, none⟩ = some (.slice A (s1.que k).length cq) := (HB.out.cell (p := ⟨r, 2 + k, none⟩) l1).trans a1
          have g1 := I7.frozen (2 + k)
          have k1 := I7.lt
          clear I7
          go_simp
          refine hK.out _ _ (HK2.out _ HB.out _) (fun _ => ?_)
          clear hK K b1 g1 k1
          try simp only [Go.Law.pz]
          refine wpAnyH_done (by kernel_rfl) ?_ _
          have HFIN := Lib.hid (room_left HV4.out hk HB.out OA.out)
          go_wp2_with fail
          go_roundw
          case rel =>
           obtain ⟨R7, hR7, hW7⟩ := HFIN.out
           refine ⟨k + 1, by omega, by go_num, R7, ?_, HW4.out.trans hW7⟩
           rw [HE1.out, HS.out]
           refine hR7.congr (fun i => ?_) (fun i => ?_)
           ·show _ = upd s1.que k _ i
            rw [HFU.out.1]
           ·show _ = upd s1.los k _ i
            rw [HFU.out.2]
            by_cases e : i = k
            ·subst e; rw [upd_same]
            ·rw [upd_other _ _ e]
          case measure => simp [intOf]; omega
         refine AllReadyH.cons (o := ⟨some 71, .buildSlice 41 1 #[(0, .tmp 70)], _, _, _, _⟩) rfl (fun K hK => ?_) AllReadyH.nil
         go_simp
         refine hK.out _ _ (HK.out _ (HB.out.alloc HB.out.size (.cells #[.string cg.us, .int .i64 cg.o1, .int .i64 cg.o2, .int .i64 cg.o3, .int .i64 cg.n1, .int .i64 cg.n2, .int .i64 cg.n3, .int .u64 seq] 63))) (fun _ => ?_)
         clear hK K
         try simp only [Go.Law.pz]
         have HB2 := Lib.hid (HB.out.alloc HB.out.size (.cells #[.string cg.us, .int .i64 cg.o1, .int .i64 cg.o2, .int .i64 cg.o3, .int .i64 cg.n1, .int .i64 cg.n2, .int .i64 cg.n3, .int .u64 seq] 63))
         have sb := HB.out.size
         have OA2 := Lib.hid (OA.out.alloc (.cells #[.string cg.us, .int .i64 cg.o1, .int .i64 cg.o2, .int .i64 cg.o3, .int .i64 cg.n1, .int .i64 cg.n2, .int .i64 cg.n3, .int .u64 seq] 63))
         have IC2 := Lib.hid (Is.new Y1 63 #[.string cg.us, .int .i64 cg.o1, .int .i64 cg.o2, .int .i64 cg.o3, .int .i64 cg.n1, .int .i64 cg.n2, .int .i64 cg.n3, .int .u64 seq] rfl)
         have nac : ga ≠ Y1.heap.size := by omega
         have la2 : ga < (Y1.alloc (.cells #[.string cg.us, .int .i64 cg.o1, .int .i64 cg.o2, .int .i64 cg.o3, .int .i64 cg.n1, .int .i64 cg.n2, .int .i64 cg.n3, .int .u64 seq] 63)).heap.size := by simp; omega
         generalize Y1.alloc (.cells #[.string cg.us, .int .i64 cg.o1, .int .i64 cg.o2, .int .i64 cg.o3, .int .i64 cg.n1, .int .i64 cg.n2, .int .i64 cg.n3, .int .u64 seq] 63) = Y11 at *
         clear HB sb OA la
         generalize Y1.heap.size = gc at *
         have HB := HB2
         clear HB2
         have OA := OA2
         clear OA2
         have IC := IC2
         clear IC2
         have la := la2
         clear la2
         refine wpAnyH_ready (rs := [8]) (by kernel_rfl) (by simp) ?_
         refine AllReadyH.cons (o := ⟨some 52, .load 41 (.tmp 51), _, _, _, _⟩) rfl (fun K hK => ?_) AllReadyH.nil
         have cl : Y11.cell? ⟨r, 2 + k, none⟩ = some (.slice A (s1.que k).length cq) := (HB.out.cell (p := ⟨r, 2 + k, none⟩) l1).trans a1
         go_simp
         refine hK.out _ _ (HK.out _ HB.out) (fun _ => ?_)
         clear hK K cl
         try simp only [Go.Law.pz]
         refine wpAnyH_ready (rs := [9]) (by kernel_rfl) (by simp) ?_
         refine AllReadyH.cons (o := ⟨some 53, .call { callee := .builtin .append, args := #[.tmp 46, .tmp 52], argTypes := #[41, 41] }, _, _, _, _⟩) rfl (fun K hK => ?_) AllReadyH.nil
         refine Law.step_append_seq _ W4.heap.size 41 rfl (.tmp 46) (.tmp 52) rfl HE.out (.slice (some ⟨ga, 0, none⟩) 0 0) 0 [] (by simp [Act.eval]) (by exact OA.out) 0 W4.heap.size A (s1.que k).length cq (flatE (s1.que k)) (by simp [Act.eval]) (flatE_length _) (HSQ.out.below HB.out) (flatE_one _) (by unfold maxLen; omega) (by omega) HB.out.size ?_
         intro v13 Y13 own grow
         have hb2 : Below W4.heap.size W4 Y13 := HB.out.grown grow HB.out.size (fun g hg => by have h9 : ga = g := Option.some.inj hg; omega)
         refine hK.out _ _ (HK.out _ hb2) (fun _ => ?_)
         clear hK K
         try simp only [Go.Law.pz]
         have OA2 : Hid (Y13.ownsRow W4.heap.size 63 8 v13 (s1.que k).length (flatE (s1.que k))) := by show World.ownsRow _ _ _ _ _ _ _; simpa using own
         have HB2 := Lib.hid hb2
         have IC2 : Hid (Is Y13 gc 63 #[.string cg.us, .int .i64 cg.o1, .int .i64 cg.o2, .int .i64 cg.o3, .int .i64 cg.n1, .int .i64 cg.n2, .int .i64 cg.n3, .int .u64 seq]) := (grow.block gc IC.out.lt (fun h => nac (Option.some.inj h).symm)).trans IC.out
         obtain ⟨A5, c5, rfl, _⟩ := own_shape OA2.out
         clear own grow hb2 HB OA la IC nac
         have HB := HB2
         have OA := OA2
         clear HB2 OA2
         have IC := IC2
         clear IC2
         refine wpAnyH_ready (rs := [28]) (by kernel_rfl) (by simp) ?_
         refine AllReadyH.cons (o := ⟨some 72, .call { callee := .builtin .append, args := #[.tmp 53, .tmp 71], argTypes := #[41, 41] }, _, _, _, _⟩) rfl (fun K hK => ?_) AllReadyH.nil
         refine Law.step_append_seq _ W4.heap.size 41 rfl (.tmp 53) (.tmp 71) rfl HE.out (.slice A5 (s1.que k).length c5) (s1.que k).length (flatE (s1.que k)) (by simp [Act.eval]) (by exact OA.out) gc (gc + 1) (some ⟨gc, 0, none⟩) 1 1 (cellsE (cg.ev seq)) (by simp [Act.eval]) rfl (seq_box IC.out) (one_E _) (by unfold maxLen; omega) (by omega) HB.out.size ?_
         intro v14 Y14 own grow
         have hb2 : Below W4.heap.size W4 Y14 := HB.out.grown grow HB.out.size (fun g hg => (OA.out.lt g hg).1)
         refine hK.out _ _ (HK.out _ hb2) (fun _ => ?_)
         clear hK K
         try simp only [Go.Law.pz]
         have OA2 : Hid (Y14.ownsRow W4.heap.size 63 8 v14 ((s1.que k).length + 1) (flatE (s1.que k ++ [cg.ev seq]))) := by show World.ownsRow _ _ _ _ _ _ _; rw [flatE_snoc]; exact own
         have HB2 := Lib.hid hb2
         obtain ⟨A7, c7, rfl, _⟩ := own_shape OA2.out
         clear own grow hb2 HB OA IC
         have HB := HB2
         have OA := OA2
         clear HB2 OA2
         refine Go.Law.tk 31 ⟨some 75, .indexAddr 78 (.tmp 74) (.tmp 45), _, _, _, _⟩ (v := .pointer (some ⟨r, 2 + k, none⟩)) (HK.out _ HB.out) ?_ ?_
         ·intro w' hSw
          go_simp; (try (intro h8; omega))
         try simp only [Go.Law.pz]
         refine wpAnyH_ready (rs := [32]) (by kernel_rfl) (by simp) ?_
         refine AllReadyH.cons (o := ⟨none, .store 41 (.tmp 75) (.tmp 72), _, _, _, _⟩) rfl (fun K hK => ?_) AllReadyH.nil
         have I7 := HV4.out.box.below HB.out HV4.out.box.lt
         have b1 : Y14.cell? ⟨r, 2 + k, none⟩ = some (.slice A (s1.que k).length cq) := (HB.out.cell (p := ⟨r, 2 + k, none⟩) l1).trans a1
         have g1 := I7.frozen (2 + k)
         have k1 := I7.lt
         clear I7
         go_simp
         refine hK.out _ _ (HK2.out _ HB.out _) (fun _ => ?_)
         clear hK K b1 g1 k1
         try simp only [Go.Law.pz]
         refine wpAnyH_done (by kernel_rfl) ?_ _
         have HFIN := Lib.hid (room_left HV4.out hk HB.out OA.out)
         go_wp2_with fail
         go_roundw
         case rel =>
          obtain ⟨R7, hR7, hW7⟩ := HFIN.out
          refine ⟨k + 1, by omega, by go_num, R7, ?_, HW4.out.trans hW7⟩
          rw [HE1.out, HS.out]
          refine hR7.congr (fun i => ?_) (fun i => ?_)
          ·show _ = upd s1.que k _ i
           rw [HFU.out.1]
          ·show _ = upd s1.los k _ i
           rw [HFU.out.2]
           by_cases e : i = k
           ·subst e; rw [upd_same]
           ·rw [upd_other _ _ e]
         case measure => simp [intOf]; omega
        refine AllReadyH.cons (o := ⟨some 52, .load 41 (.tmp 51), _, _, _, _⟩) rfl (fun K hK => ?_) ?_
        ·have cl : Y0.cell? ⟨r, 2 + k, none⟩ = some (.slice A (s1.que k).length cq) := (HB.out.cell (p := ⟨r, 2 + k, none⟩) l1).trans a1
         go_simp
         refine hK.out _ _ (HK.out _ HB.out) (fun _ => ?_)
         clear hK K cl
         try simp only [Go.Law.pz]
         refine wpAnyH_ready (rs := [2, 27]) (by kernel_rfl) (by simp) ?_
         refine AllReadyH.cons (o := ⟨some 46, .buildSlice 41 0 #[], _, _, _, _⟩) rfl (fun K hK => ?_) ?_
         ·go_simp
          refine hK.out _ _ (HK.out _ (HB.out.alloc HB.out.size (.cells #[] 63))) (fun _ => ?_)
          clear hK K
          try simp only [Go.Law.pz]
          have HB2 := Lib.hid (HB.out.alloc HB.out.size (.cells #[] 63))
          have sb := HB.out.size
          have OA2 := Lib.hid (own_emptyN Y0 63 (base := W4.heap.size) sb)
          have na : W4.heap.size ≤ Y0.heap.size := sb
          have la2 : Y0.heap.size < (Y0.alloc (.cells #[] 63)).heap.size := by simp
          generalize Y0.alloc (.cells #[] 63) = Y17 at *
          clear HB sb
          generalize Y0.heap.size = ga at *
          have HB := HB2
          clear HB2
          have OA := OA2
          clear OA2
          have la := la2
          clear la2
          refine wpAnyH_ready (rs := [9, 27]) (by kernel_rfl) (by simp) ?_
          refine AllReadyH.cons (o := ⟨some 53, .call { callee := .builtin .append, args := #[.tmp 46, .tmp 52], argTypes := #[41, 41] }, _, _, _, _⟩) rfl (fun K hK => ?_) ?_
          ·refine Law.step_append_seq _ W4.heap.size 41 rfl (.tmp 46) (.tmp 52) rfl HE.out (.slice (some ⟨ga, 0, none⟩) 0 0) 0 [] (by simp [Act.eval]) (by exact OA.out) 0 W4.heap.size A (s1.que k).length cq (flatE (s1.que k)) (by simp [Act.eval]) (flatE_length _) (HSQ.out.below HB.out) (flatE_one _) (by unfold maxLen; omega) (by omega) HB.out.size ?_
           intro v18 Y18 own grow
           have hb2 : Below W4.heap.size W4 Y18 := HB.out.grown grow HB.out.size (fun g hg => by have h9 : ga = g := Option.some.inj hg; omega)
           refine hK.out _ _ (HK.out _ hb2) (fun _ => ?_)
           clear hK K
           try simp only [Go.Law.pz]
           have OA2 : Hid (Y18.ownsRow W4.heap.size 63 8 v18 (s1.que k).length (flatE (s1.que k))) := by show World.ownsRow _ _ _ _ _ _ _; simpa using own
           have HB2 := Lib.hid hb2
           obtain ⟨A5, c5, rfl, _⟩ := own_shape OA2.out
           clear own grow hb2 HB OA la
           have HB := HB2
           have OA := OA2
           clear HB2 OA2
           refine wpAnyH_ready (rs := [27]) (by kernel_rfl) (by simp) ?_
           refine AllReadyH.cons (o := ⟨some 71, .buildSlice 41 1 #[(0, .tmp 70)], _, _, _, _⟩) rfl (fun K hK => ?_) AllReadyH.nil
           go_simp
           refine hK.out _ _ (HK.out _ (HB.out.alloc HB.out.size (.cells #[.string cg.us, .int .i64 cg.o1, .int .i64 cg.o2, .int .i64 cg.o3, .int .i64 cg.n1, .int .i64 cg.n2, .int .i64 cg.n3, .int .u64 seq] 63))) (fun _ => ?_)
           clear hK K
           try simp only [Go.Law.pz]
           have HB2 := Lib.hid (HB.out.alloc HB.out.size (.cells #[.string cg.us, .int .i64 cg.o1, .int .i64 cg.o2, .int .i64 cg.o3, .int .i64 cg.n1, .int .i64 cg.n2, .int .i64 cg.n3, .int .u64 seq] 63))
           have sb := HB.out.size
           have OA2 := Lib.hid (OA.out.alloc (.cells #[.string cg.us, .int .i64 cg.o1, .int .i64 cg.o2, .int .i64 cg.o3, .int .i64 cg.n1, .int .i64 cg.n2, .int .i64 cg.n3, .int .u64 seq] 63))
           have IC2 := Lib.hid (Is.new Y18 63 #[.string cg.us, .int .i64 cg.o1, .int .i64 cg.o2, .int .i64 cg.o3, .int .i64 cg.n1, .int .i64 cg.n2, .int .i64 cg.n3, .int .u64 seq] rfl)
           generalize Y18.alloc (.cells #[.string cg.us, .int .i64 cg.o1, .int .i64 cg.o2, .int .i64 cg.o3, .int .i64 cg.n1, .int .i64 cg.n2, .int .i64 cg.n3, .int .u64 seq] 63) = Y19 at *
           clear HB sb OA
           generalize Y18.heap.size = gc at *
           have HB := HB2
           clear HB2
           have OA := OA2
           clear OA2
           have IC := IC2
           clear IC2
           refine wpAnyH_ready (rs := [28]) (by kernel_rfl) (by simp) ?_
           refine AllReadyH.cons (o := ⟨some 72, .call { callee := .builtin .append, args := #[.tmp 53, .tmp 71], argTypes := #[41, 41] }, _, _, _, _⟩) rfl (fun K hK => ?_) AllReadyH.nil
           refine Law.step_append_seq _ W4.heap.size 41 rfl (.tmp 53) (.tmp 71) rfl HE.out (.slice A5 (s1.que k).length c5) (s1.que k).length (flatE (s1.que k)) (by simp [Act.eval]) (by exact OA.out) gc (gc + 1) (some ⟨gc, 0, none⟩) 1 1 (cellsE (cg.ev seq)) (by simp [Act.eval]) rfl (seq_box IC.out) (one_E _) (by unfold maxLen; omega) (by omega) HB.out.size ?_
           intro v20 Y20 own grow
           have hb2 : Below W4.heap.size W4 Y20 := HB.out.grown grow HB.out.size (fun g hg => (OA.out.lt g hg).1)
           refine hK.out _ _ (HK.out _ hb2) (fun _ => ?_)
           clear hK K
           try simp only [Go.Law.pz]
           have OA2 : Hid (Y20.ownsRow W4.heap.size 63 8 v20 ((s1.que k).length + 1) (flatE (s1.que k ++ [cg.ev seq]))) := by show World.ownsRow _ _ _ _ _ _ _; rw [flatE_snoc]; exact own
           have HB2 := Lib.hid hb2
           obtain ⟨A7, c7, rfl, _⟩ := own_shape OA2.out
           clear own grow hb2 HB OA IC
           have HB := HB2
           have OA := OA2
           clear HB2 OA2
           refine Go.Law.tk 31 ⟨some 75, .indexAddr 78 (.tmp 74) (.tmp 45), _, _, _, _⟩ (v := .pointer (some ⟨r, 2 + k, none⟩)) (HK.out _ HB.out) ?_ ?_
           ·intro w' hSw
            go_simp; (try (intro h8; omega))
           try simp only [Go.Law.pz]
           refine wpAnyH_ready (rs := [32]) (by kernel_rfl) (by simp) ?_
           refine AllReadyH.cons (o := ⟨none, .store 41 (.tmp 75) (.tmp 72), _, _, _, _⟩) rfl (fun K hK => ?_) AllReadyH.nil
           have I7 := HV4.out.box.below HB.out HV4.out.box.lt
           have b1 : Y20.cell? ⟨r, 2 + k, none⟩ = some (.slice A (s1.que k).length cq) := (HB.out.cell (p := ⟨r, 2 + k, none⟩) l1).trans a1
           have g1 := I7.frozen (2 + k)
           have k1 := I7.lt
           clear I7
           go_simp
           refine hK.out _ _ (HK2.out _ HB.out _) (fun _ => ?_)
           clear hK K b1 g1 k1
           try simp only [Go.Law.pz]
           refine wpAnyH_done (by kernel_rfl) ?_ _
           have HFIN := Lib.hid (room_left HV4.out hk HB.out OA.out)
           go_wp2_with fail
           go_roundw
           case rel =>
            obtain ⟨R7, hR7, hW7⟩ := HFIN.out
            refine ⟨k + 1, by omega, by go_num, R7, ?_, HW4.out.trans hW7⟩
            rw [HE1.out, HS.out]
            refine hR7.congr (fun i => ?_) (fun i => ?_)
            ·show _ = upd s1.que k _ i
             rw [HFU.out.1]
            ·show _ = upd s1.los k _ i
             rw [HFU.out.2]
             by_cases e : i = k
             ·subst e; rw [upd_same]
             ·rw [upd_other _ _ e]
           case measure => simp [intOf]; omega
          refine AllReadyH.cons (o := ⟨some 71, .buildSlice 41 1 #[(0, .tmp 70)], _, _, _, _⟩) rfl (fun K hK => ?_) AllReadyH.nil
          go_simp
          refine hK.out _ _ (HK.out _ (HB.out.alloc HB.out.size (.cells #[.string cg.us, .int .i64 cg.o1, .int .i64 cg.o2, .int .i64 cg.o3, .int .i64 cg.n1, .int .i64 cg.n2, .int .i64 cg.n3, .int .u64 seq] 63))) (fun _ => ?_)
          clear hK K
          try simp only [Go.Law.pz]
          have HB2 := Lib.hid (HB.out.alloc HB.out.size (.cells #[.string cg.us, .int .i64 cg.o1, .int .i64 cg.o2, .int .i64 cg.o3, .int .i64 cg.n1, .int .i64 cg.n2, .int .i64 cg.n3, .int .u64 seq] 63))
          have sb := HB.out.size
          have OA2 := Lib.hid (OA.out.alloc (.cells #[.string cg.us, .int .i64 cg.o1, .int .i64 cg.o2, .int .i64 cg.o3, .int .i64 cg.n1, .int .i64 cg.n2, .int .i64 cg.n3, .int .u64 seq] 63))
          have IC2 := Lib.hid (Is.new Y17 63 #[.string cg.us, .int .i64 cg.o1, .int .i64 cg.o2, .int .i64 cg.o3, .int .i64 cg.n1, .int .i64 cg.n2, .int .i64 cg.n3, .int .u64 seq] rfl)
          have nac : ga ≠ Y17.heap.size := by omega
          have la2 : ga < (Y17.alloc (.cells #[.string cg.us, .int .i64 cg.o1, .int .i64 cg.o2, .int .i64 cg.o3, .int .i64 cg.n1, .int .i64 cg.n2, .int .i64 cg.n3, .int .u64 seq] 63)).heap.size := by simp; omega
          generalize Y17.alloc (.cells #[.string cg.us, .int .i64 cg.o1, .int .i64 cg.o2, .int .i64 cg.o3, .int .i64 cg.n1, .int .i64 cg.n2, .int .i64 cg.n3, .int .u64 seq] 63) = Y22 at *
          clear HB sb OA la
          generalize Y17.heap.size = gc at *
          have HB := HB2
          clear HB2
          have OA := OA2
          clear OA2
          have IC := IC2
          clear IC2
          have la := la2
          clear la2
          refine wpAnyH_ready (rs := [9]) (by kernel_rfl) (by simp) ?_
          refine AllReadyH.cons (o := ⟨some 53, .call { callee := .builtin .append, args := #[.tmp 46, .tmp 52], argTypes := #[41, 41] }, _, _, _, _⟩) rfl (fun K hK => ?_) AllReadyH.nil
          refine Law.step_append_seq _ W4.heap.size 41 rfl (.tmp 46) (.tmp 52) rfl HE.out (.slice (some ⟨ga, 0, none⟩) 0 0) 0 [] (by simp [Act.eval]) (by exact OA.out) 0 W4.heap.size A (s1.que k).length cq (flatE (s1.que k)) (by simp [Act.eval]) (flatE_length _) (HSQ.out.below HB.out) (flatE_one _) (by unfold maxLen; omega) (by omega) HB.out.size ?_
          intro v23 Y23 own grow
          have hb2 : Below W4.heap.size W4 Y23 := HB.out.grown grow HB.out.size (fun g hg => by have h9 : ga = g := Option.some.inj hg; omega)
          refine hK.out _ _ (HK.out _ hb2) (fun _ => ?_)
          clear hK K
          try simp only [Go.Law.pz]
          have OA2 : Hid (Y23.ownsRow W4.heap.size 63 8 v23 (s1.que k).length (flatE (s1.que k))) := by show World.ownsRow _ _ _ _ _ _ _; simpa using own
          have HB2 := Lib.hid hb2
          have IC2 : Hid (Is Y23 gc 63 #[.string cg.us, .int .i64 cg.o1, .int .i64 cg.o2, .int .i64 cg.o3, .int .i64 cg.n1, .int .i64 cg.n2, .int .i64 cg.n3, .int .u64 seq]) := (grow.block gc IC.out.lt (fun h => nac (Option.some.inj h).symm)).trans IC.out
          obtain ⟨A5, c5, rfl, _⟩ := own_shape OA2.out
          clear own grow hb2 HB OA la IC nac
          have HB := HB2
          have OA := OA2
          clear HB2 OA2
          have IC := IC2
          clear IC2
          refine wpAnyH_ready (rs := [28]) (by kernel_rfl) (by simp) ?_
          refine AllReadyH.cons (o := ⟨some 72, .call { callee := .builtin .append, args := #[.tmp 53, .tmp 71], argTypes := #[41, 41] }, _, _, _, _⟩) rfl (fun K hK => ?_) AllReadyH.nil
          refine Law.step_append_seq _ W4.heap.size 41 rfl (.tmp 53) (.tmp 71) rfl HE.out (.slice A5 (s1.que k).length c5) (s1.que k).length (flatE (s1.que k)) (by simp [Act.eval]) (by exact OA.out) gc (gc + 1) (some ⟨gc, 0, none⟩) 1 1 (cellsE (cg.ev seq)) (by simp [Act.eval]) rfl (seq_box IC.out) (one_E _) (by unfold maxLen; omega) (by omega) HB.out.size ?_
          intro v24 Y24 own grow
          have hb2 : Below W4.heap.size W4 Y24 := HB.out.grown grow HB.out.size (fun g hg => (OA.out.lt g hg).1)
          refine hK.out _ _ (HK.out _ hb2) (fun _ => ?_)
          clear hK K
          try simp only [Go.Law.pz]
          have OA2 : Hid (Y24.ownsRow W4.heap.size 63 8 v24 ((s1.que k).length + 1) (flatE (s1.que k ++ [cg.ev seq]))) := by show World.ownsRow _ _ _ _ _ _ _; rw [flatE_snoc]; exact own
          have HB2 := Lib.hid hb2
          obtain ⟨A7, c7, rfl, _⟩ := own_shape OA2.out
          clear own grow hb2 HB OA IC
          have HB := HB2
          have OA := OA2
          clear HB2 OA2
          refine Go.Law.tk 31 ⟨some 75, .indexAddr 78 (.tmp 74) (.tmp 45), _, _, _, _⟩ (v := .pointer (some ⟨r, 2 + k, none⟩)) (HK.out _ HB.out) ?_ ?_
          ·intro w' hSw
           go_simp; (try (intro h8; omega))
          try simp only [Go.Law.pz]
          refine wpAnyH_ready (rs := [32]) (by kernel_rfl) (by simp) ?_
          refine AllReadyH.cons (o := ⟨none, .store 41 (.tmp 75) (.tmp 72), _, _, _, _⟩) rfl (fun K hK => ?_) AllReadyH.nil
          have I7 := HV4.out.box.below HB.out HV4.out.box.lt
          have b1 : Y24.cell? ⟨r, 2 + k, none⟩ = some (.slice A (s1.que k).length cq) := (HB.out.cell (p := ⟨r, 2 + k, none⟩) l1).trans a1
          have g1 := I7.frozen (2 + k)
          have k1 := I7.lt
          clear I7
          go_simp
          refine hK.out _ _ (HK2.out _ HB.out _) (fun _ => ?_)
          clear hK K b1 g1 k1
          try simp only [Go.Law.pz]
          refine wpAnyH_done (by kernel_rfl) ?_ _
          have HFIN := Lib.hid (room_left HV4.out hk HB.out OA.out)
          go_wp2_with fail
          go_roundw
          case rel =>
           obtain ⟨R7, hR7, hW7⟩ := HFIN.out
           refine ⟨k + 1, by omega, by go_num, R7, ?_, HW4.out.trans hW7⟩
           rw [HE1.out, HS.out]
           refine hR7.congr (fun i => ?_) (fun i => ?_)
           ·show _ = upd s1.que k _ i
            rw [HFU.out.1]
           ·show _ = upd s1.los k _ i
            rw [HFU.out.2]
            by_cases e : i = k
            ·subst e; rw [upd_same]
            ·rw [upd_other _ _ e]
          case measure => simp [intOf]; omega
         refine AllReadyH.cons (o := ⟨some 71, .buildSlice 41 1 #[(0, .tmp 70)], _, _, _, _⟩) rfl (fun K hK => ?_) AllReadyH.nil
         go_simp
         refine hK.out _ _ (HK.out _ (HB.out.alloc HB.out.size (.cells #[.string cg.us, .int .i64 cg.o1, .int .i64 cg.o2, .int .i64 cg.o3, .int .i64 cg.n1, .int .i64 cg.n2, .int .i64 cg.n3, .int .u64 seq] 63))) (fun _ => ?_)
         clear hK K
         try simp only [Go.Law.pz]
         have HB2 := Lib.hid (HB.out.alloc HB.out.size (.cells #[.string cg.us, .int .i64 cg.o1, .int .i64 cg.o2, .int .i64 cg.o3, .int .i64 cg.n1, .int .i64 cg.n2, .int .i64 cg.n3, .int .u64 seq] 63))
         have sb := HB.out.size
         have IC2 := Lib.hid (Is.new Y0 63 #[.string cg.us, .int .i64 cg.o1, .int .i64 cg.o2, .int .i64 cg.o3, .int .i64 cg.n1, .int .i64 cg.n2, .int .i64 cg.n3, .int .u64 seq] rfl)
         generalize Y0.alloc (.cells #[.string cg.us, .int .i64 cg.o1, .int .i64 cg.o2, .int .i64 cg.o3, .int .i64 cg.n1, .int .i64 cg.n2, .int .i64 cg.n3, .int .u64 seq] 63) = Y26 at *
         clear HB sb
         generalize Y0.heap.size = gc at *
         have HB := HB2
         clear HB2
         have IC := IC2
         clear IC2
         refine wpAnyH_ready (rs := [2]) (by kernel_rfl) (by simp) ?_
         refine AllReadyH.cons (o := ⟨some 46, .buildSlice 41 0 #[], _, _, _, _⟩) rfl (fun K hK => ?_) AllReadyH.nil
         go_simp
         refine hK.out _ _ (HK.out _ (HB.out.alloc HB.out.size (.cells #[] 63))) (fun _ => ?_)
         clear hK K
         try simp only [Go.Law.pz]
         have HB2 := Lib.hid (HB.out.alloc HB.out.size (.cells #[] 63))
         have sb := HB.out.size
         have IC2 := Lib.hid (IC.out.alloc (.cells #[] 63))
         have lc := IC.out.lt
         have OA2 := Lib.hid (own_emptyN Y26 63 (base := W4.heap.size) sb)
         have na : W4.heap.size ≤ Y26.heap.size := sb
         have nac : Y26.heap.size ≠ gc := by omega
         have la2 : Y26.heap.size < (Y26.alloc (.cells #[] 63)).heap.size := by simp
         generalize Y26.alloc (.cells #[] 63) = Y27 at *
         clear HB sb IC lc
         generalize Y26.heap.size = ga at *
         have HB := HB2
         clear HB2
         have OA := OA2
         clear OA2
         have IC := IC2
         clear IC2
         have la := la2
         clear la2
         refine wpAnyH_ready (rs := [9]) (by kernel_rfl) (by simp) ?_
         refine AllReadyH.cons (o := ⟨some 53, .call { callee := .builtin .append, args := #[.tmp 46, .tmp 52], argTypes := #[41, 41] }, _, _, _, _⟩) rfl (fun K hK => ?_) AllReadyH.nil
         refine Law.step_append_seq _ W4.heap.size 41 rfl (.tmp 46) (.tmp 52) rfl HE.out (.slice (some ⟨ga, 0, none⟩) 0 0) 0 [] (by simp [Act.eval]) (by exact OA.out) 0 W4.heap.size A (s1.que k).length cq (flatE (s1.que k)) (by simp [Act.eval]) (flatE_length _) (HSQ.out.below HB.out) (flatE_one _) (by unfold maxLen; omega) (by omega) HB.out.size ?_
         intro v28 Y28 own grow
         have hb2 : Below W4.heap.size W4 Y28 := HB.out.grown grow HB.out.size (fun g hg => by have h9 : ga = g := Option.some.inj hg; omega)
         refine hK.out _ _ (HK.out _ hb2) (fun _ => ?_)
         clear hK K
         try simp only [Go.Law.pz]
         have OA2 : Hid (Y28.ownsRow W4.heap.size 63 8 v28 (s1.que k).length (flatE (s1.que k))) := by show World.ownsRow _ _ _ _ _ _ _; simpa using own
         have HB2 := Lib.hid hb2
         have IC2 : Hid (Is Y28 gc 63 #[.string cg.us, .int .i64 cg.o1, .int .i64 cg.o2, .int .i64 cg.o3, .int .i64 cg.n1, .int .i64 cg.n2, .int .i64 cg.n3, .int .u64 seq]) := (grow.block gc IC.out.lt (fun h => nac (Option.some.inj h).symm)).trans IC.out
         obtain ⟨A5, c5, rfl, _⟩ := own_shape OA2.out
         clear own grow hb2 HB OA la IC nac
         have HB := HB2
         have OA := OA2
         clear HB2 OA2
         have IC := IC2
         clear IC2
         refine wpAnyH_ready (rs := [28]) (by kernel_rfl) (by simp) ?_
         refine AllReadyH.cons (o := ⟨some 72, .call { callee := .builtin .append, args := #[.tmp 53, .tmp 71], argTypes := #[41, 41] }, _, _, _, _⟩) rfl (fun K hK => ?_) AllReadyH.nil
         refine Law.step_append_seq _ W4.heap.size 41 rfl (.tmp 53) (.tmp 71) rfl HE.out (.slice A5 (s1.que k).length c5) (s1.que k).length (flatE (s1.que k)) (by simp [Act.eval]) (by exact OA.out) gc (gc + 1) (some ⟨gc, 0, none⟩) 1 1 (cellsE (cg.ev seq)) (by simp [Act.eval]) rfl (seq_box IC.out) (one_E _) (by unfold maxLen; omega) (by omega) HB.out.size ?_
         intro v29 Y29 own grow
         have hb2 : Below W4.heap.size W4 Y29 := HB.out.grown grow HB.out.size (fun g hg => (OA.out.lt g hg).1)
         refine hK.out _ _ (HK.out _ hb2) (fun _ => ?_)
         clear hK K
         try simp only [Go.Law.pz]
         have OA2 : Hid (Y29.ownsRow W4.heap.size 63 8 v29 ((s1.que k).length + 1) (flatE (s1.que k ++ [cg.ev seq]))) := by show World.ownsRow _ _ _ _ _ _ _; rw [flatE_snoc]; exact own
         have HB2 := Lib.hid hb2
         obtain ⟨A7, c7, rfl, _⟩ := own_shape OA2.out
         clear own grow hb2 HB OA IC
         have HB := HB2
         have OA := OA2
         clear HB2 OA2
         refine Go.Law.tk 31 ⟨some 75, .indexAddr 78 (.tmp 74) (.tmp 45), _, _, _, _⟩ (v := .pointer (some ⟨r, 2 + k, none⟩)) (HK.out _ HB.out) ?_ ?_
         ·intro w' hSw
          go_simp; (try (intro h8; omega))
         try simp only [Go.Law.pz]
         refine wpAnyH_ready (rs := [32]) (by kernel_rfl) (by simp) ?_
         refine AllReadyH.cons (o := ⟨none, .store 41 (.tmp 75) (.tmp 72), _, _, _, _⟩) rfl (fun K hK => ?_) AllReadyH.nil
         have I7 := HV4.out.box.below HB.out HV4.out.box.lt
         have b1 : Y29.cell? ⟨r, 2 + k, none⟩ = some (.slice A (s1.que k).length cq) := (HB.out.cell (p := ⟨r, 2 + k, none⟩) l1).trans a1
         have g1 := I7.frozen (2 + k)
         have k1 := I7.lt
         clear I7
         go_simp
         refine hK.out _ _ (HK2.out _ HB.out _) (fun _ => ?_)
         clear hK K b1 g1 k1
         try simp only [Go.Law.pz]
         refine wpAnyH_done (by kernel_rfl) ?_ _
         have HFIN := Lib.hid (room_left HV4.out hk HB.out OA.out)
         go_wp2_with fail
         go_roundw
         case rel =>
          obtain ⟨R7, hR7, hW7⟩ := HFIN.out
          refine ⟨k + 1, by omega, by go_num, R7, ?_, HW4.out.trans hW7⟩
          rw [HE1.out, HS.out]
          refine hR7.congr (fun i => ?_) (fun i => ?_)
          ·show _ = upd s1.que k _ i
           rw [HFU.out.1]
          ·show _ = upd s1.los k _ i
           rw [HFU.out.2]
           by_cases e : i = k
           ·subst e; rw [upd_same]
           ·rw [upd_other _ _ e]
         case measure => simp [intOf]; omega
        refine AllReadyH.cons (o := ⟨some 71, .buildSlice 41 1 #[(0, .tmp 70)], _, _, _, _⟩) rfl (fun K hK => ?_) AllReadyH.nil
        go_simp
        refine hK.out _ _ (HK.out _ (HB.out.alloc HB.out.size (.cells #[.string cg.us, .int .i64 cg.o1, .int .i64 cg.o2, .int .i64 cg.o3, .int .i64 cg.n1, .int .i64 cg.n2, .int .i64 cg.n3, .int .u64 seq] 63))) (fun _ => ?_)
        clear hK K
        try simp only [Go.Law.pz]
        have HB2 := Lib.hid (HB.out.alloc HB.out.size (.cells #[.string cg.us, .int .i64 cg.o1, .int .i64 cg.o2, .int .i64 cg.o3, .int .i64 cg.n1, .int .i64 cg.n2, .int .i64 cg.n3, .int .u64 seq] 63))
        have sb := HB.out.size
        have IC2 := Lib.hid (Is.new Y0 63 #[.string cg.us, .int .i64 cg.o1, .int .i64 cg.o2, .int .i64 cg.o3, .int .i64 cg.n1, .int .i64 cg.n2, .int .i64 cg.n3, .int .u64 seq] rfl)
        generalize Y0.alloc (.cells #[.string cg.us, .int .i64 cg.o1, .int .i64 cg.o2, .int .i64 cg.o3, .int .i64 cg.n1, .int .i64 cg.n2, .int .i64 cg.n3, .int .u64 seq] 63) = Y31 at *
        clear HB sb
        generalize Y0.heap.size = gc at *
        have HB := HB2
        clear HB2
        have IC := IC2
        clear IC2
        refine wpAnyH_ready (rs := [2, 8]) (by kernel_rfl) (by simp) ?_
        refine AllReadyH.cons (o := ⟨some 46, .buildSlice 41 0 #[], _, _, _, _⟩) rfl (fun K hK => ?_) ?_
        ·go_simp
         refine hK.out _ _ (HK.out _ (HB.out.alloc HB.out.size (.cells #[] 63))) (fun _ => ?_)
         clear hK K
         try simp only [Go.Law.pz]
         have HB2 := Lib.hid (HB.out.alloc HB.out.size (.cells #[] 63))
         have sb := HB.out.size
         have IC2 := Lib.hid (IC.out.alloc (.cells #[] 63))
         have lc := IC.out.lt
         have OA2 := Lib.hid (own_emptyN Y31 63 (base := W4.heap.size) sb)
         have na : W4.heap.size ≤ Y31.heap.size := sb
         have nac : Y31.heap.size ≠ gc := by omega
         have la2 : Y31.heap.size < (Y31.alloc (.cells #[] 63)).heap.size := by simp
         generalize Y31.alloc (.cells #[] 63) = Y32 at *
         clear HB sb IC lc
         generalize Y31.heap.size = ga at *
         have HB := HB2
         clear HB2
         have OA := OA2
         clear OA2
         have IC := IC2
         clear IC2
         have la := la2
         clear la2
         refine wpAnyH_ready (rs := [8]) (by kernel_rfl) (by simp) ?_
         refine AllReadyH.cons (o := ⟨some 52, .load 41 (.tmp 51), _, _, _, _⟩) rfl (fun K hK => ?_) AllReadyH.nil
         have cl : Y32.cell? ⟨r, 2 + k, none⟩ = some (.slice A (s1.que k).length cq) := (HB.out.cell (p := ⟨r, 2 + k, none⟩) l1).trans a1
         go_simp
         refine hK.out _ _ (HK.out _ HB.out) (fun _ => ?_)
         clear hK K cl
         try simp only [Go.Law.pz]
         refine wpAnyH_ready (rs := [9]) (by kernel_rfl) (by simp) ?_
         refine AllReadyH.cons (o := ⟨some 53, .call { callee := .builtin .append, args := #[.tmp 46, .tmp 52], argTypes := #[41, 41] }, _, _, _, _⟩) rfl (fun K hK => ?_) AllReadyH.nil
         refine Law.step_append_seq _ W4.heap.size 41 rfl (.tmp 46) (.tmp 52) rfl HE.out (.slice (some ⟨ga, 0, none⟩) 0 0) 0 [] (by simp [Act.eval]) (by exact OA.out) 0 W4.heap.size A (s1.que k).length cq (flatE (s1.que k)) (by simp [Act.eval]) (flatE_length _) (HSQ.out.below HB.out) (flatE_one _) (by unfold maxLen; omega) (by omega) HB.out.size ?_
         intro v34 Y34 own grow
         have hb2 : Below W4.heap.size W4 Y34 := HB.out.grown grow HB.out.size (fun g hg => by have h9 : ga = g := Option.some.inj hg; omega)
         refine hK.out _ _ (HK.out _ hb2) (fun _ => ?_)
         clear hK K
         try simp only [Go.Law.pz]
         have OA2 : Hid (Y34.ownsRow W4.heap.size 63 8 v34 (s1.que k).length (flatE (s1.que k))) := by show World.ownsRow _ _ _ _ _ _ _; simpa using own
         have HB2 := Lib.hid hb2
         have IC2 : Hid (Is Y34 gc 63 #[.string cg.us, .int .i64 cg.o1, .int .i64 cg.o2, .int .i64 cg.o3, .int .i64 cg.n1, .int .i64 cg.n2, .int .i64 cg.n3, .int .u64 seq]) := (grow.block gc IC.out.lt (fun h => nac (Option.some.inj h).symm)).trans IC.out
         obtain ⟨A5, c5, rfl, _⟩ := own_shape OA2.out
         clear own grow hb2 HB OA la IC nac
         have HB := HB2
         have OA := OA2
         clear HB2 OA2
         have IC := IC2
         clear IC2
         refine wpAnyH_ready (rs := [28]) (by kernel_rfl) (by simp) ?_
         refine AllReadyH.cons (o := ⟨some 72, .call { callee := .builtin .append, args := #[.tmp 53, .tmp 71], argTypes := #[41, 41] }, _, _, _, _⟩) rfl (fun K hK => ?_) AllReadyH.nil
         refine Law.step_append_seq _ W4.heap.size 41 rfl (.tmp 53) (.tmp 71) rfl HE.out (.slice A5 (s1.que k).length c5) (s1.que k).length (flatE (s1.que k)) (by simp [Act.eval]) (by exact OA.out) gc (gc + 1) (some ⟨gc, 0, none⟩) 1 1 (cellsE (cg.ev seq)) (by simp [Act.eval]) rfl (seq_box IC.out) (one_E _) (by unfold maxLen; omega) (by omega) HB.out.size ?_
         intro v35 Y35 own grow
         have hb2 : Below W4.heap.size W4 Y35 := HB.out.grown grow HB.out.size (fun g hg => (OA.out.lt g hg).1)
         refine hK.out _ _ (HK.out _ hb2) (fun _ => ?_)
         clear hK K
         try simp only [Go.Law.pz]
         have OA2 : Hid (Y35.ownsRow W4.heap.size 63 8 v35 ((s1.que k).length + 1) (flatE (s1.que k ++ [cg.ev seq]))) := by show World.ownsRow _ _ _ _ _ _ _; rw [flatE_snoc]; exact own
         have HB2 := Lib.hid hb2
         obtain ⟨A7, c7, rfl, _⟩ := own_shape OA2.out
         clear own grow hb2 HB OA IC
         have HB := HB2
         have OA := OA2
         clear HB2 OA2
         refine Go.Law.tk 31 ⟨some 75, .indexAddr 78 (.tmp 74) (.tmp 45), _, _, _, _⟩ (v := .pointer (some ⟨r, 2 + k, none⟩)) (HK.out _ HB.out) ?_ ?_
         ·intro w' hSw
          go_simp; (try (intro h8; omega))
         try simp only [Go.Law.pz]
         refine wpAnyH_ready (rs := [32]) (by kernel_rfl) (by simp) ?_
         refine AllReadyH.cons (o := ⟨none, .store 41 (.tmp 75) (.tmp 72), _, _, _, _⟩) rfl (fun K hK => ?_) AllReadyH.nil
         have I7 := HV4.out.box.below HB.out HV4.out.box.lt
         have b1 : Y35.cell? ⟨r, 2 + k, none⟩ = some (.slice A (s1.que k).length cq) := (HB.out.cell (p := ⟨r, 2 + k, none⟩) l1).trans a1
         have g1 := I7.frozen (2 + k)
         have k1 := I7.lt
         clear I7
         go_simp
         refine hK.out _ _ (HK2.out _ HB.out _) (fun _ => ?_)
         clear hK K b1 g1 k1
         try simp only [Go.Law.pz]
         refine wpAnyH_done (by kernel_rfl) ?_ _
         have HFIN := Lib.hid (room_left HV4.out hk HB.out OA.out)
         go_wp2_with fail
         go_roundw
         case rel =>
          obtain ⟨R7, hR7, hW7⟩ := HFIN.out
          refine ⟨k + 1, by omega, by go_num, R7, ?_, HW4.out.trans hW7⟩
          rw [HE1.out, HS.out]
          refine hR7.congr (fun i => ?_) (fun i => ?_)
          ·show _ = upd s1.que k _ i
           rw [HFU.out.1]
          ·show _ = upd s1.los k _ i
           rw [HFU.out.2]
           by_cases e : i = k
           ·subst e; rw [upd_same]
           ·rw [upd_other _ _ e]
         case measure => simp [intOf]; omega
        refine AllReadyH.cons (o := ⟨some 52, .load 41 (.tmp 51), _, _, _, _⟩) rfl (fun K hK => ?_) AllReadyH.nil
        have cl : Y31.cell? ⟨r, 2 + k, none⟩ = some (.slice A (s1.que k).length cq) := (HB.out.cell (p := ⟨r, 2 + k, none⟩) l1).trans a1
        go_simp
        refine hK.out _ _ (HK.out _ HB.out) (fun _ => ?_)
        clear hK K cl
        try simp only [Go.Law.pz]
        refine wpAnyH_ready (rs := [2]) (by kernel_rfl) (by simp) ?_
        refine AllReadyH.cons (o := ⟨some 46, .buildSlice 41 0 #[], _, _, _, _⟩) rfl (fun K hK => ?_) AllReadyH.nil
        go_simp
        refine hK.out _ _ (HK.out _ (HB.out.alloc HB.out.size (.cells #[] 63))) (fun _ => ?_)
        clear hK K
        try simp only [Go.Law.pz]
        have HB2 := Lib.hid (HB.out.alloc HB.out.size (.cells #[] 63))
        have sb := HB.out.size
        have IC2 := Lib.hid (IC.out.alloc (.cells #[] 63))
        have lc := IC.out.lt
        have OA2 := Lib.hid (own_emptyN Y31 63 (base := W4.heap.size) sb)
        have na : W4.heap.size ≤ Y31.heap.size := sb
        have nac : Y31.heap.size ≠ gc := by omega
        have la2 : Y31.heap.size < (Y31.alloc (.cells #[] 63)).heap.size := by simp
        generalize Y31.alloc (.cells #[] 63) = Y38 at *
        clear HB sb IC lc
        generalize Y31.heap.size = ga at *
        have HB := HB2
        clear HB2
        have OA := OA2
        clear OA2
        have IC := IC2
        clear IC2
        have la := la2
        clear la2
        refine wpAnyH_ready (rs := [9]) (by kernel_rfl) (by simp) ?_
        refine AllReadyH.cons (o := ⟨some 53, .call { callee := .builtin .append, args := #[.tmp 46, .tmp 52], argTypes := #[41, 41] }, _, _, _, _⟩) rfl (fun K hK => ?_) AllReadyH.nil
        refine Law.step_append_seq _ W4.heap.size 41 rfl (.tmp 46) (.tmp 52) rfl HE.out (.slice (some ⟨ga, 0, none⟩) 0 0) 0 [] (by simp [Act.eval]) (by exact OA.out) 0 W4.heap.size A (s1.que k).length cq (flatE (s1.que k)) (by simp [Act.eval]) (flatE_length _) (HSQ.out.below HB.out) (flatE_one _) (by unfold maxLen; omega) (by omega) HB.out.size ?_
        intro v39 Y39 own grow
        have hb2 : Below W4.heap.size W4 Y39 := HB.out.grown grow HB.out.size (fun g hg => by have h9 : ga = g := Option.some.inj hg; omega)
        refine hK.out _ _ (HK.out _ hb2) (fun _ => ?_)
        clear hK K
        try simp only [Go.Law.pz]
        have OA2 : Hid (Y39.ownsRow W4.heap.size 63 8 v39 (s1.que k).length (flatE (s1.que k))) := by show World.ownsRow _ _ _ _ _ _ _; simpa using own
        have HB2 := Lib.hid hb2
        have IC2 : Hid (Is Y39 gc 63 #[.string cg.us, .int .i64 cg.o1, .int .i64 cg.o2, .int .i64 cg.o3, .int .i64 cg.n1, .int .i64 cg.n2, .int .i64 cg.n3, .int .u64 seq]) := (grow.block gc IC.out.lt (fun h => nac (Option.some.inj h).symm)).trans IC.out
        obtain ⟨A5, c5, rfl, _⟩ := own_shape OA2.out
        clear own grow hb2 HB OA la IC nac
        have HB := HB2
        have OA := OA2
        clear HB2 OA2
        have IC := IC2
        clear IC2
        refine wpAnyH_ready (rs := [28]) (by kernel_rfl) (by simp) ?_
        refine AllReadyH.cons (o := ⟨some 72, .call { callee := .builtin .append, args := #[.tmp 53, .tmp 71], argTypes := #[41, 41] }, _, _, _, _⟩) rfl (fun K hK => ?_) AllReadyH.nil
        refine Law.step_append_seq _ W4.heap.size 41 rfl (.tmp 53) (.tmp 71) rfl HE.out (.slice A5 (s1.que k).length c5) (s1.que k).length (flatE (s1.que k)) (by simp [Act.eval]) (by exact OA.out) gc (gc + 1) (some ⟨gc, 0, none⟩) 1 1 (cellsE (cg.ev seq)) (by simp [Act.eval]) rfl (seq_box IC.out) (one_E _) (by unfold maxLen; omega) (by omega) HB.out.size ?_
        intro v40 Y40 own grow
        have hb2 : Below W4.heap.size W4 Y40 := HB.out.grown grow HB.out.size (fun g hg => (OA.out.lt g hg).1)
        refine hK.out _ _ (HK.out _ hb2) (fun _ => ?_)
        clear hK K
        try simp only [Go.Law.pz]
        have OA2 : Hid (Y40.ownsRow W4.heap.size 63 8 v40 ((s1.que k).length + 1) (flatE (s1.que k ++ [cg.ev seq]))) := by show World.ownsRow _ _ _ _ _ _ _; rw [flatE_snoc]; exact own
        have HB2 := Lib.hid hb2
        obtain ⟨A7, c7, rfl, _⟩ := own_shape OA2.out
        clear own grow hb2 HB OA IC
        have HB := HB2
        have OA := OA2
        clear HB2 OA2
        refine Go.Law.tk 31 ⟨some 75, .indexAddr 78 (.tmp 74) (.tmp 45), _, _, _, _⟩ (v := .pointer (some ⟨r, 2 + k, none⟩)) (HK.out _ HB.out) ?_ ?_
        ·intro w' hSw
         go_simp; (try (intro h8; omega))
        try simp only [Go.Law.pz]
        refine wpAnyH_ready (rs := [32]) (by kernel_rfl) (by simp) ?_
        refine AllReadyH.cons (o := ⟨none, .store 41 (.tmp 75) (.tmp 72), _, _, _, _⟩) rfl (fun K hK => ?_) AllReadyH.nil
        have I7 := HV4.out.box.below HB.out HV4.out.box.lt
        have b1 : Y40.cell? ⟨r, 2 + k, none⟩ = some (.slice A (s1.que k).length cq) := (HB.out.cell (p := ⟨r, 2 + k, none⟩) l1).trans a1
        have g1 := I7.frozen (2 + k)
        have k1 := I7.lt
        clear I7
        go_simp
        refine hK.out _ _ (HK2.out _ HB.out _) (fun _ => ?_)
        clear hK K b1 g1 k1
        try simp only [Go.Law.pz]
        refine wpAnyH_done (by kernel_rfl) ?_ _
        have HFIN := Lib.hid (room_left HV4.out hk HB.out OA.out)
        go_wp2_with fail
        go_roundw
        case rel =>
         obtain ⟨R7, hR7, hW7⟩ := HFIN.out
         refine ⟨k + 1, by omega, by go_num, R7, ?_, HW4.out.trans hW7⟩
         rw [HE1.out, HS.out]
         refine hR7.congr (fun i => ?_) (fun i => ?_)
         ·show _ = upd s1.que k _ i
          rw [HFU.out.1]
         ·show _ = upd s1.los k _ i
          rw [HFU.out.2]
          by_cases e : i = k
          ·subst e; rw [upd_same]
          ·rw [upd_other _ _ e]
        case measure => simp [intOf]; omega
    ·obtain rfl : k = 8 := by omega
     have d1 : decide (((8 : Nat) : Int) < 8) = false := by decide
     go_wp2_with fail
     go_roundw
     case rel => exact ⟨j + 1, by omega, by go_num, R2, by rw [HST.out]; exact HA2.out, by rw [HST.out] at *; exact HW2.out⟩
     case measure => simp [intOf]; omega
  ·have d0 : decide ((j : Int) < (cgs.length : Int)) = false := by simp; omega
   have e1 : cgs.take j = cgs := List.take_of_length_le (by omega)
   rw [e1] at HA1
   go_wp2_with fail
   go_end0
   exact ⟨rfl, R1, HA1.out, HW1.out⟩
end Feed
end Go.Proofs.YtohdlnefgieenaaGreat
