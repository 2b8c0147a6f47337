/-
  What the reference's (layer 9) Watch, Unwatch and Drain come to.
-/
import Derived.Test.YtdkjcheannehhaaFeed12
namespace Go.Proofs.Ytdkjcheannehhaa
open Go.RowKit Go.Shelf
attribute [local go_sem] Oper.semAt_some
namespace Feed
open Go.Law
/-- only block r has turned; what is of R' was of R, or is new -/
structure RWent (w : World) (R : Nat → Prop) (r : Nat) (w' : World) (R' : Nat → Prop) : Prop where
  touch : Law.Touch w w' (fun k => k = r)
  new : ∀ n, R' n → R n ∨ w.heap.size ≤ n
theorem RWent.of_below {w w' : World} {R : Nat → Prop} {r : Nat} (hb : Below w.heap.size w w') : RWent w R r w' R := ⟨Law.Touch.of_below hb _, fun _ h => .inl h⟩
theorem RWent.trans {w w' w'' : World} {R R' R'' : Nat → Prop} {r : Nat} (h : RWent w R r w' R') (h' : RWent w' R' r w'' R'') : RWent w R r w'' R'' :=
  ⟨h.touch.trans h'.touch (fun _ hk => .inl hk), fun n hn => (h'.new n hn).elim (h.new n) (fun hl => .inr (Nat.le_trans h.touch.size hl))⟩
def RDone (w : World) (R : Nat → Prop) (r : Nat) (room : Int) (ps : List Pa) (qs : Nat → List Ev) (ls : Nat → Bool) (e : Ending) (w' : World) : Prop :=
  e = .returned (.tuple #[]) ∧ ∃ R', RefAt w' R' r room ps qs ls ∧ RWent w R r w' R'
theorem elemP : ∃ i, Law.Elem Try.prog 28 68 i (.agg #[.int .i64 0, .string ⟨#[]⟩]) 2 24 := Law.Elem.of Try.underlying28 (by kernel_rfl) rfl (by decide)
theorem own_emptyP (w : World) {base : Nat} (e : TypeId) (hb : base ≤ w.heap.size) : (w.alloc (.cells #[] e)).ownsRow base e 2 (.slice (some ⟨w.heap.size, 0, none⟩) 0 0) 0 [] :=
  ⟨rfl, .inr ⟨w.heap.size, 0, #[], rfl, hb, heap_alloc_new w _, Nat.le_refl _, Nat.zero_le _, rfl, rfl⟩⟩
/-- the pairs are put -/
theorem RefV.pairs {w w' : World} {R : Nat → Prop} {r : Nat} {room : Int} {ps ps' : List Pa} {qs : Nat → List Ev} {ls : Nat → Bool} {vp : Value} {vq : Nat → Value} (h : RefV w R r room ps qs ls vp vq) (hb : Below w.heap.size w w') {A : Option Addr} {c : Nat} (hs : Seq w' w.heap.size w'.heap.size A (flatP ps')) :
    RefAt (w'.setCell ⟨r, 1, none⟩ (.slice A ps'.length c)) (fun n => R n ∨ w.heap.size ≤ n ∧ n < w'.heap.size) r room ps' qs ls ∧ RWent w R r (w'.setCell ⟨r, 1, none⟩ (.slice A ps'.length c)) (fun n => R n ∨ w.heap.size ≤ n ∧ n < w'.heap.size) := by
  have h1 := h.below hb
  have hlt := h.box.lt
  have hout : ¬ (R r ∨ w.heap.size ≤ r ∧ r < w'.heap.size) := fun h' => h'.elim h.out (fun h' => by omega)
  have ht := Law.Touch.store (T := fun k => k = r) w' ⟨r, 1, none⟩ (.slice A ps'.length c) rfl
  refine ⟨⟨.slice A ps'.length c, vq, h1.box.set 1 _ rfl, hout, fun n hn => ?_, ⟨A, c, rfl, ?_⟩, fun k hk => ?_⟩, ⟨(Law.Touch.of_below hb _).trans ht (fun _ hk => .inl hk), fun n hn => hn.imp id And.left⟩⟩
  · have : n < w'.heap.size := hn.elim (h1.ok n) And.right
    simpa using this
  · exact (LieR.of_seq (R := fun n => R n ∨ w.heap.size ≤ n ∧ n < w'.heap.size) hs (fun n h1 h2 => .inr ⟨h1, h2⟩)).touch ht (fun n hn e => hout (e ▸ hn)) (fun n hn => hn.elim (h1.ok n) And.right)
  · obtain ⟨A, c, e, hl⟩ := h1.qu k hk
    exact ⟨A, c, e, (hl.touch ht (fun n hn e => h.out (e ▸ hn)) h1.ok).mono (fun n hn => .inl hn)⟩
set_option maxRecDepth 100000 in
set_option maxHeartbeats 2000000 in
theorem rWatch_new {w : World} {R : Nat → Prop} {r k : Nat} {room : Int} {ps : List Pa} {qs : Nat → List Ev} {ls : Nat → Bool} (h : RefAt w R r room ps qs ls) (hl : ps.length ≤ 999) (hk : k < 8) (u : ByteArray) (hn : ((k : Int), u) ∉ ps) :
    Calls Try.prog 8 #[.pointer (some ⟨r, 0, none⟩), .int .i64 (k : Int), .string u] w (RDone w R r room (ps ++ [((k : Int), u)]) qs ls) := by
  have HW := Lib.hid (rWatching h (by omega) (k : Int) u (res := false) ⟨fun h => Bool.noConfusion h, fun h => absurd h hn⟩)
  have HA := Lib.hid h
  obtain ⟨i0, hE⟩ := elemP
  have HE := Lib.hid hE
  have d1 : decide ((0 : Int) ≤ (k : Int)) = true := by simp
  have d2 : decide ((k : Int) < 8) = true := by simp; omega
  clear h hn hE
  go_enter Try.func8, Try.ntmps8
  go_wp2_with fail
  refine HW.out.mono ?_
  rintro e w1 ⟨rfl, hb⟩
  have HA1 := Lib.hid (HA.out.below hb)
  have HB1 := Lib.hid hb
  clear hb HW HA
  obtain ⟨vp, vq, hv⟩ := HA1.out
  obtain ⟨A, c, rfl, hp⟩ := hv.pr
  have HV := Lib.hid hv
  have HP := Lib.hid (hp.seq hv.ok)
  have c1 : w1.cell? ⟨r, 1, none⟩ = some (.slice A ps.length c) := hv.box.cell' rfl
  have l1 := hv.box.lt
  have HO := Lib.hid (own_emptyP w1 68 (base := w1.heap.size) (Nat.le_refl _))
  have HS1 := Lib.hid ((hp.seq hv.ok).alloc (Nat.le_refl _) (.cells #[] 68))
  have HB0 := Lib.hid ((Below.refl w1.heap.size w1).alloc (Nat.le_refl _) (.cells #[] 68))
  clear hv hp HA1
  go_wp2_with (first
    | (at_builtin; refine Law.wpList_append_seq _ w1.heap.size 28 rfl _ _ rfl HE.out _ 0 [] rfl HO.out 0 w1.heap.size A ps.length c (flatP ps) rfl (flatP_length ps) HS1.out (flatP_one _) (by unfold maxLen; omega) (by omega) (by simp) ?_; intro v1 z1 hown hg; have hb1 := HB0.out.grown hg (by simp) (fun k hk => (HO.out.lt k hk).1); have HB2 := Lib.hid hb1; have hown1 : z1.ownsRow w1.heap.size 68 2 v1 ps.length (flatP ps) := (by simpa using hown); have HO1 := Lib.hid hown1; have sz1 := hb1.size; obtain ⟨D1, cd1, hD1, hcd1⟩ := own_shape HO1.out; subst hD1; clear hown hg hb1 hown1)
    | (at_builtin; refine wpList_append_own _ rfl _ _ 28 rfl w1.heap.size 68 i0 (.agg #[.int .i64 0, .string ⟨#[]⟩]) 2 24 HE.out.ut HE.out.info HE.out.zero HE.out.sz HE.out.by_ HE.out.cells HE.out.pos _ _ _ rfl (HO1.out.alloc _) ⟨z1.heap.size, 0, none⟩ 1 1 (cellsP ((k : Int), u)) rfl rfl (new_P z1 ((k : Int), u) _ rfl) (one_P _) (by unfold maxLen; omega) (by omega) (by simp; omega) ?_; intro v2 z2 hown hg _; have hb2 := (HB2.out.alloc sz1 _).grown hg (by simp; omega) (fun k hk => (HO1.out.lt k hk).1); have HB3 := Lib.hid hb2; have HO2 := Lib.hid hown; have I2 := HV.out.box.below hb2 HV.out.box.lt; have c2 : z2.cell? ⟨r, 1, none⟩ = some (.slice A ps.length c) := I2.cell' rfl; have f2 := I2.frozen 1; have l2 := I2.lt; obtain ⟨g2, cap2, rfl⟩ := ownsRow_succ hown; clear hown hg hb2 I2))
  go_end0
  have hsq : Seq z2 w1.heap.size z2.heap.size (some ⟨g2, 0, none⟩) (flatP (ps ++ [((k : Int), u)])) := by rw [flatP_snoc]; exact Seq.own HO2.out
  have hfin := HV.out.pairs HB3.out (ps' := ps ++ [((k : Int), u)]) (c := cap2) hsq
  rw [List.length_append] at hfin
  exact ⟨rfl, _, hfin.1, (RWent.of_below HB1.out).trans hfin.2⟩
/-- nothing is done -/
theorem rWatch_no {w : World} {R : Nat → Prop} {r : Nat} {room : Int} {ps : List Pa} {qs : Nat → List Ev} {ls : Nat → Bool} {who : Int} (h : RefAt w R r room ps qs ls) (hw : ¬ (0 ≤ who ∧ who < 8)) (u : ByteArray) :
    Calls Try.prog 8 #[.pointer (some ⟨r, 0, none⟩), .int .i64 who, .string u] w (RDone w R r room ps qs ls) := by
  by_cases h0 : 0 ≤ who
  · have d1 : decide ((0 : Int) ≤ who) = true := by simp; omega
    have d2 : decide (who < 8) = false := by simp; omega
    have HA := Lib.hid h
    clear h hw
    go_enter Try.func8, Try.ntmps8
    go_wp2_with fail
    go_end0
    exact ⟨rfl, R, HA.out, RWent.of_below (Below.refl _ _)⟩
  · have d1 : decide ((0 : Int) ≤ who) = false := by simp; omega
    have HA := Lib.hid h
    clear h hw
    go_enter Try.func8, Try.ntmps8
    go_wp2_with fail
    go_end0
    exact ⟨rfl, R, HA.out, RWent.of_below (Below.refl _ _)⟩
set_option maxHeartbeats 1000000 in
theorem rWatch_old {w : World} {R : Nat → Prop} {r k : Nat} {room : Int} {ps : List Pa} {qs : Nat → List Ev} {ls : Nat → Bool} (h : RefAt w R r room ps qs ls) (hl : ps.length ≤ 999) (hk : k < 8) (u : ByteArray) (hn : ((k : Int), u) ∈ ps) :
    Calls Try.prog 8 #[.pointer (some ⟨r, 0, none⟩), .int .i64 (k : Int), .string u] w (RDone w R r room ps qs ls) := by
  have HW := Lib.hid (rWatching h (by omega) (k : Int) u (res := true) ⟨fun _ => hn, fun _ => rfl⟩)
  have HA := Lib.hid h
  have d1 : decide ((0 : Int) ≤ (k : Int)) = true := by simp
  have d2 : decide ((k : Int) < 8) = true := by simp; omega
  clear h hn
  go_enter Try.func8, Try.ntmps8
  go_wp2_with fail
  refine HW.out.mono ?_
  rintro e w1 ⟨rfl, hb⟩
  have HA1 := Lib.hid (HA.out.below hb)
  have HB1 := Lib.hid hb
  clear hb HW HA
  go_wp2_with fail
  go_end0
  exact ⟨rfl, R, HA1.out, RWent.of_below HB1.out⟩
set_option maxRecDepth 100000 in
set_option maxHeartbeats 2000000 in
theorem rUnwatch {w : World} {R : Nat → Prop} {r : Nat} {room : Int} {ps : List Pa} {qs : Nat → List Ev} {ls : Nat → Bool} (h : RefAt w R r room ps qs ls) (hl : ps.length ≤ 1000) (who : Int) (u : ByteArray) :
    Calls Try.prog 10 #[.pointer (some ⟨r, 0, none⟩), .int .i64 who, .string u] w (RDone w R r room (ps.filter fun p => !decide (p = (who, u))) qs ls) := by
  obtain ⟨i0, hE⟩ := elemP
  have HE := Lib.hid hE
  obtain ⟨vp, vq, hv⟩ := h
  obtain ⟨A, c, rfl, hp⟩ := hv.pr
  have HV := Lib.hid hv
  have HP := Lib.hid (hp.seq hv.ok)
  clear hv hp hE
  go_enter Try.func10, Try.ntmps10
  go_wp2_with fail
  go_loopw [6, 7] (fun vo i wr => ∃ j : Nat, j ≤ ps.length ∧ i = .int .i64 j ∧ wr.ownsRow w.heap.size 68 2 vo ((ps.take j).filter fun p => !decide (p = (who, u))).length (flatP ((ps.take j).filter fun p => !decide (p = (who, u)))) ∧ Below w.heap.size w wr) (fun _ i _ => ps.length - (intOf i).toNat)
  case atStart => exact ⟨0, Nat.zero_le _, rfl, World.ownsRow_nil _ _ _ _, Below.refl _ _⟩
  case round =>
    obtain ⟨j, hj, rfl, hO, hB⟩ := hrel
    have I1 := HV.out.box.below hB HV.out.box.lt
    have c1 : World.cell? _ ⟨r, 1, none⟩ = some (.slice A ps.length c) := I1.cell' rfl
    have f1 := I1.frozen 1
    have l1 := I1.lt
    have HO := Lib.hid hO
    have HB := Lib.hid hB
    have sz := hB.size
    have hfl : ((ps.take j).filter fun p => !decide (p = (who, u))).length ≤ 1000 := Nat.le_trans (List.length_filter_le ..) (by simp; omega)
    clear hO hB I1
    by_cases hlt : j < ps.length
    · have d1 : decide ((j : Int) < (ps.length : Int)) = true := by simp; omega
      obtain ⟨g, o, rfl, _, hg, p0, p1⟩ := (HP.out.below HB.out).pa hlt
      have HTK := Lib.hid (List.take_succ_eq_append_getElem hlt)
      have lg := Nat.lt_of_lt_of_le hg sz
      generalize ps[j] = p at *
      obtain ⟨a, y⟩ := p
      simp only at p0 p1
      by_cases ha : a = who
      · by_cases hy : y = u
        · subst ha hy
          have e1 : (a != a) = false := by simp
          have e2 : (y.toList != y.toList) = false := by simp
          have e3 : (y.toList == y.toList) = true := by simp
          have HF : Hid ((ps.take (j + 1)).filter (fun p => !decide (p = (a, y))) = (ps.take j).filter (fun p => !decide (p = (a, y)))) := by show _ = _; rw [HTK.out, List.filter_append, List.filter_cons_of_neg (by simp)]; simp
          generalize (ps.take j).filter (fun p => !decide (p = (a, y))) = fs at *
          obtain ⟨D, cd, rfl, hcd⟩ := own_shape HO.out
          go_wp2_with fail
          go_roundw
          case rel => exact ⟨j + 1, by omega, by go_num, by rw [HF.out]; exact HO.out, HB.out⟩
          case measure => simp [intOf]; omega
        · subst ha
          have hne : ¬ (a, y) = (a, u) := fun e => hy (congrArg Prod.snd e)
          have e1 : (a != a) = false := by simp
          have e2 : (y.toList != u.toList) = true := by simpa using fun e => hy (OmapU.ext e)
          have e3 : (y.toList == u.toList) = false := by simpa using fun e => hy (OmapU.ext e)
          have HF : Hid ((ps.take (j + 1)).filter (fun p => !decide (p = (a, u))) = (ps.take j).filter (fun p => !decide (p = (a, u))) ++ [(a, y)]) := by show _ = _; rw [HTK.out, List.filter_append, List.filter_cons_of_pos (by rw [decide_eq_false hne]; rfl)]; simp
          generalize (ps.take j).filter (fun p => !decide (p = (a, u))) = fs at *
          obtain ⟨D, cd, rfl, hcd⟩ := own_shape HO.out
          go_wp2_with (at_builtin; refine wpList_append_own _ rfl _ _ 28 rfl w.heap.size 68 i0 (.agg #[.int .i64 0, .string ⟨#[]⟩]) 2 24 HE.out.ut HE.out.info HE.out.zero HE.out.sz HE.out.by_ HE.out.cells HE.out.pos _ _ _ rfl (HO.out.alloc _) ⟨wr.heap.size, 0, none⟩ 1 1 (cellsP (a, y)) rfl rfl (new_P wr (a, y) _ rfl) (one_P _) (by unfold maxLen; omega) (by omega) (by simp; omega) ?_; intro v2 z2 hown hg _; have HB3 := Lib.hid ((HB.out.alloc sz _).grown hg (by simp; omega) (fun k hk => (HO.out.lt k hk).1)); have HO2 := Lib.hid hown; obtain ⟨g2, cap2, rfl⟩ := ownsRow_succ hown; clear hown hg)
          go_roundw
          case rel => exact ⟨j + 1, by omega, by go_num, by rw [HF.out, flatP_snoc, List.length_append]; exact HO2.out, HB3.out⟩
          case measure => simp [intOf]; omega
      · have hne : ¬ (a, y) = (who, u) := fun e => ha (congrArg Prod.fst e)
        have e1 : (a != who) = true := by simpa using ha
        have HF : Hid ((ps.take (j + 1)).filter (fun p => !decide (p = (who, u))) = (ps.take j).filter (fun p => !decide (p = (who, u))) ++ [(a, y)]) := by show _ = _; rw [HTK.out, List.filter_append, List.filter_cons_of_pos (by rw [decide_eq_false hne]; rfl)]; simp
        generalize (ps.take j).filter (fun p => !decide (p = (who, u))) = fs at *
        obtain ⟨D, cd, rfl, hcd⟩ := own_shape HO.out
        go_wp2_with (at_builtin; refine wpList_append_own _ rfl _ _ 28 rfl w.heap.size 68 i0 (.agg #[.int .i64 0, .string ⟨#[]⟩]) 2 24 HE.out.ut HE.out.info HE.out.zero HE.out.sz HE.out.by_ HE.out.cells HE.out.pos _ _ _ rfl (HO.out.alloc _) ⟨wr.heap.size, 0, none⟩ 1 1 (cellsP (a, y)) rfl rfl (new_P wr (a, y) _ rfl) (one_P _) (by unfold maxLen; omega) (by omega) (by simp; omega) ?_; intro v2 z2 hown hg _; have HB3 := Lib.hid ((HB.out.alloc sz _).grown hg (by simp; omega) (fun k hk => (HO.out.lt k hk).1)); have HO2 := Lib.hid hown; obtain ⟨g2, cap2, rfl⟩ := ownsRow_succ hown; clear hown hg)
        go_roundw
        case rel => exact ⟨j + 1, by omega, by go_num, by rw [HF.out, flatP_snoc, List.length_append]; exact HO2.out, HB3.out⟩
        case measure => simp [intOf]; omega
    · have d1 : decide ((j : Int) < (ps.length : Int)) = false := by simp; omega
      have e1 : ps.take j = ps := List.take_of_length_le (by omega)
      rw [e1] at HO hfl
      obtain ⟨fs, hfs⟩ : ∃ fs, (ps.filter fun p => !decide (p = (who, u))) = fs := ⟨_, rfl⟩
      rw [hfs] at HO hfl
      have HFS := Lib.hid hfs
      clear hfs
      obtain ⟨D, cd, rfl, hcd⟩ := own_shape HO.out
      go_wp2_with fail
      go_end0
      have hfin := HV.out.pairs HB.out (ps' := fs) (c := cd) (Seq.own HO.out)
      exact ⟨rfl, _, by rw [HFS.out]; exact hfin.1, hfin.2⟩
end Feed
end Go.Proofs.Ytdkjcheannehhaa
