/-
  What the reference's (layer 8) become comes to.
-/
import Derived.Test.YtohdlnefgieenaaGreatJ27
import Derived.Test.YtohdlnefgieenaaGreatJ10
namespace Go.Law
section
variable {κ ν : Type} (lt : κ → κ → Prop) [DecidableRel lt] [DecidableEq κ]
def anyGe (u : κ) (l : List (κ × ν)) : Bool := l.any fun q => decide (¬ lt q.1 u)
def half (e : Bool) (u : κ) (v : ν) (l : List (κ × ν)) : List (κ × ν) := if e then outK u l else if anyGe lt u l then putK lt u v l else l
variable {lt}
omit [DecidableEq κ] in
theorem anyGe_app {u : κ} {l : List (κ × ν)} {q : κ × ν} : anyGe lt u (l ++ [q]) = (anyGe lt u l || decide (¬ lt q.1 u)) := by unfold anyGe; rw [List.any_append]; simp
omit [DecidableEq κ] in
theorem anyGe_false {u : κ} {l : List (κ × ν)} (h : anyGe lt u l = false) : ∀ p ∈ l, lt p.1 u := fun p hp => by
 unfold anyGe at h
 rw [List.any_eq_false] at h
 simpa using h p hp
omit [DecidableEq κ] in
theorem anyGe_true {u : κ} {l : List (κ × ν)} (h : anyGe lt u l = true) : ∃ p ∈ l, ¬ lt p.1 u := by
 unfold anyGe at h
 rw [List.any_eq_true] at h
 obtain ⟨p, hp, h⟩ := h
 exact ⟨p, hp, by simpa using h⟩
theorem half_nil (e : Bool) (u : κ) (v : ν) : half lt e u v [] = [] := by cases e <;> rfl
theorem half_false (u : κ) (v : ν) (l : List (κ × ν)) : half lt false u v l = if anyGe lt u l then putK lt u v l else l := by unfold half; simp
theorem half_done (ht : Tri lt) {e : Bool} {u : κ} {v : ν} {l : List (κ × ν)} {q : κ × ν} (hr : Rises lt (l ++ [q])) (hp : (e || anyGe lt u l) = true) : half lt e u v (l ++ [q]) = half lt e u v l ++ (if q.1 = u then [] else [q]) ∧ (e || anyGe lt u (l ++ [q])) = true := by
 cases e
 ·simp only [Bool.false_or] at hp
  obtain ⟨p, hp1, hp2⟩ := anyGe_true hp
  have h1 : lt p.1 q.1 := (List.pairwise_append.1 hr).2.2 p hp1 q (by simp)
  have h2 : lt u q.1 := by
   rcases ht.tri p.1 u with h | h | h
   ·exact absurd h hp2
   ·rw [← h]; exact h1
   ·exact ht.tr h h1
  have h3 : anyGe lt u (l ++ [q]) = true := by rw [anyGe_app, hp]; rfl
  refine ⟨?_, by simpa using h3⟩
  rw [half_false, half_false, if_pos h3, if_pos hp, if_neg (ht.ne h2).symm]
  exact putK_left lt h2 l
 ·refine ⟨?_, by simp⟩
  unfold half
  rw [if_pos rfl, if_pos rfl, outK_app]
  congr 1
  unfold outK
  by_cases h : q.1 = u <;> simp [h]
theorem half_small {u : κ} {v : ν} {l : List (κ × ν)} {q : κ × ν} (hp : (false || anyGe lt u l) = false) (hq : lt q.1 u) : half lt false u v (l ++ [q]) = half lt false u v l ++ [q] ∧ (false || anyGe lt u (l ++ [q])) = false := by
 simp only [Bool.false_or] at hp
 have h3 : anyGe lt u (l ++ [q]) = false := by rw [anyGe_app, hp]; simpa using hq
 refine ⟨?_, by simpa using h3⟩
 rw [half_false, half_false, if_neg (by simp [h3]), if_neg (by simp [hp])]
theorem half_here (ht : Tri lt) {u : κ} {v : ν} {l : List (κ × ν)} {q : κ × ν} (hr : Rises lt (l ++ [q])) (hp : (false || anyGe lt u l) = false) (hq : q.1 = u) : half lt false u v (l ++ [q]) = half lt false u v l ++ [(u, v)] ∧ (false || anyGe lt u (l ++ [q])) = true := by
 simp only [Bool.false_or] at hp
 obtain ⟨a, b⟩ := q
 simp only at hq
 subst hq
 have h3 : anyGe lt a (l ++ [(a, b)]) = true := by rw [anyGe_app]; simp [ht.irr]
 refine ⟨?_, by simpa using h3⟩
 rw [half_false, half_false, if_pos h3, if_neg (by simp [hp])]
 exact putK_same lt ht l hr
theorem half_past (ht : Tri lt) {u : κ} {v : ν} {l : List (κ × ν)} {q : κ × ν} (hp : (false || anyGe lt u l) = false) (hq : lt u q.1) : half lt false u v (l ++ [q]) = half lt false u v l ++ [(u, v)] ++ [q] ∧ (false || anyGe lt u (l ++ [q])) = true := by
 simp only [Bool.false_or] at hp
 have h3 : anyGe lt u (l ++ [q]) = true := by rw [anyGe_app]; simp [ht.asym hq]
 refine ⟨?_, by simpa using h3⟩
 rw [half_false, half_false, if_pos h3, if_neg (by simp [hp]), putK_left lt (a := q.1) (b := q.2) hq l, putK_end lt ht (anyGe_false hp)]
theorem half_all (e : Bool) (u : κ) (v : ν) (l : List (κ × ν)) (hp : (e || anyGe lt u l) = true) : half lt e u v l = if e = true then outK u l else putK lt u v l := by
 unfold half
 cases e
 ·simp only [Bool.false_or] at hp
  simp [hp]
 ·simp
theorem half_rest (ht : Tri lt) (e : Bool) (u : κ) (v : ν) (l : List (κ × ν)) (hp : (e || anyGe lt u l) = false) : half lt e u v l ++ [(u, v)] = if e = true then outK u l else putK lt u v l := by
 cases e
 ·simp only [Bool.false_or] at hp
  unfold half
  simp only [hp, Bool.false_eq_true, if_false]
  exact (putK_end lt ht (anyGe_false hp)).symm
 ·simp at hp
theorem half_length (e : Bool) (u : κ) (v : ν) (l : List (κ × ν)) : (half lt e u v l).length ≤ l.length + 1 := by
 unfold half
 split
 ·have := outK_length u l; omega
 ·split
  ·exact (putK_length lt u v l).1
  ·omega
end
end Go.Law
namespace Go.Proofs.YtohdlnefgieenaaGreat
open Go.RowKit
namespace Bk
open Go.Law Go.Proofs.YtohdlnefgieenaaGreat.OmapB Door

theorem become_half {u : ByteArray} {ss : List Sn} {now : Int} {b : List (ByteArray × En)} {xs : List (ByteArray × EnV)} {v : EnV} {e : Bool} (he : decide (ss = []) = e) (hv : v.en = (ss, presS now ss)) (h : mapV EnV.en xs = b) : mapV EnV.en (if e = true then outK u xs else putK lt u v xs) = become lt u ss now b := by
 unfold become
 subst he
 by_cases hs : ss = []
 ·simp only [hs, decide_true, if_true]
  rw [mapV_out, h]
 ·simp only [hs, decide_false, if_false, Bool.false_eq_true]
  rw [mapV_put, h, hv]

set_option maxRecDepth 100000 in
set_option maxHeartbeats 4000000 in
theorem refBecome (u : ByteArray) (ss : List Sn) (now : Int) {w : World} {A B : Option Addr} {c d : Nat} {b : List (ByteArray × En)} (h : UsersAt w A b) (hR : Rises lt b) (hs : Lain 138 w B (flatS ss)) (hl : ss.length ≤ 900) (hn : b.length ≤ 900) :
  Calls Tryz.prog 58 #[.slice A b.length c, .string u, .slice B ss.length d, .int .u64 now] w fun e w' => ∃ A1 c1 A2 c2, e = .returned (.tuple #[.slice A1 (become lt u ss now b).length c1, .slice A2 (tells u ss now b).length c2]) ∧ UsersAt w' A1 (become lt u ss now b) ∧ Lain 131 w' A2 (flatC (tells u ss now b)) ∧ Below w.heap.size w w' := by
 obtain ⟨t0, t1, t2, ht⟩ : ∃ t0 t1 t2, toldK u b = (t0, t1, t2) := ⟨_, _, _, rfl⟩
 obtain ⟨s0, s1, s2, hp⟩ : ∃ s0 s1 s2, presS now ss = (s0, s1, s2) := ⟨_, _, _, rfl⟩
 have hT : tells u ss now b = if (s0, s1, s2) = (t0, t1, t2) then [] else [(u, (t0, t1, t2), (s0, s1, s2))] := by unfold tells; rw [ht, hp]
 have H := Lib.hid h
 have HR := Lib.hid hR
 have HS := Lib.hid hs
 have HT := Lib.hid ht
 have HP := Lib.hid hp
 have HTE := Lib.hid hT
 have HB := Lib.hid (Below.refl w.heap.size w)
 clear h hR hs ht hp hT
 go_enter Tryz.func58, Tryz.ntmps58
 go_wp2_with fail
 refine (refFind u rfl HT.out H.out HR.out hn).mono ?_
 rintro e w1 ⟨A1, c1, rfl, _, b1⟩
 replace HB := Lib.hid (HB.out.trans (b1.mono HB.out.size))
 replace H := Lib.hid (H.out.now b1)
 replace HS := Lib.hid (HS.out.now b1)
 clear b1
 go_wp2_with fail
 have HI1 := Lib.hid (Is.new w1 107 #[.string u, .slice A1 (sesK u b).length c1, .int .i64 t0, .int .i64 t1, .int .i64 t2] rfl)
 have bx := (Below.refl w1.heap.size w1).alloc (Nat.le_refl _) (.cells #[.string u, .slice A1 (sesK u b).length c1, .int .i64 t0, .int .i64 t1, .int .i64 t2] 107)
 replace HB := Lib.hid (HB.out.trans (bx.mono HB.out.size))
 replace H := Lib.hid (H.out.now bx)
 replace HS := Lib.hid (HS.out.now bx)
 generalize w1.alloc (.cells #[.string u, .slice A1 (sesK u b).length c1, .int .i64 t0, .int .i64 t1, .int .i64 t2] 107) = w2 at *
 clear bx
 refine (refOfP HP.out HS.out.seq hl).mono ?_
 rintro e w3 ⟨rfl, b1⟩
 replace HB := Lib.hid (HB.out.trans (b1.mono HB.out.size))
 replace H := Lib.hid (H.out.now b1)
 replace HS := Lib.hid (HS.out.now b1)
 replace HI1 := Lib.hid (HI1.out.below b1 HI1.out.lt)
 clear b1
 obtain ⟨e, he⟩ : ∃ e, decide (ss = []) = e := ⟨_, rfl⟩
 have d0 : ((ss.length : Int) == 0) = e := by
  rw [← he]
  cases ss with
  | nil => rfl
  | cons a r => simp; omega
 have HEE_ := Lib.hid he
 have HEE := Lib.hid he
 clear he
 obtain ⟨xs, hx, hin, hxb⟩ := H.out
 have hxl : b.length = xs.length := by rw [← hxb, mapV_length]
 have HX := Lib.hid hx
 have HIN := Lib.hid hin
 have HXB := Lib.hid hxb
 have HRX : Hid (Rises lt xs) := (mapV_rises lt (f := EnV.en)).1 (by rw [hxb]; exact HR.out)
 have hx9 : xs.length ≤ 900 := by omega
 rw [hxl]
 clear hx hin hxb hxl H
 have HV : Hid ((EnV.mk B ss.length d s0 s1 s2 ss).en = (ss, presS now ss)) := by show _ = _; rw [HP.out]; rfl
 have HVI : Hid ((EnV.mk B ss.length d s0 s1 s2 ss).In 138 w3) := ⟨rfl, HS.out⟩
 have HEV : Hid (∃ ev : EnV, ev = EnV.mk B ss.length d s0 s1 s2 ss) := ⟨_, rfl⟩
 obtain ⟨ev, hev⟩ := HEV.out
 rw [← hev] at HV HVI
 have HCU : Hid (cellsU (u, ev) = [.string u, .slice B ss.length d, .int .i64 s0, .int .i64 s1, .int .i64 s2]) := by rw [hev]; rfl
 clear hev HEV
 go_wp2_with fail
 have bx := (Below.refl w3.heap.size w3).alloc (Nat.le_refl _) (.cells #[.int .i64 s0, .int .i64 s1, .int .i64 s2] 57)
 have HI2 := Lib.hid (Is.new w3 57 #[.int .i64 s0, .int .i64 s1, .int .i64 s2] rfl)
 have hw31 : w1.heap.size < w3.heap.size := HI1.out.lt
 replace HI1 := Lib.hid (HI1.out.below bx HI1.out.lt)
 replace HB := Lib.hid (HB.out.trans (bx.mono HB.out.size))
 replace HX := Lib.hid (HX.out.now bx)
 replace HIN : Hid (∀ q ∈ xs, q.2.In 138 (w3.alloc (.cells #[.int .i64 s0, .int .i64 s1, .int .i64 s2] 57))) := fun q hq => (HIN.out q hq).keeps (Keeps.of_below bx)
 replace HVI := Lib.hid (HVI.out.keeps (Keeps.of_below bx))
 clear bx HS HR HEE_
 generalize w3.alloc (.cells #[.int .i64 s0, .int .i64 s1, .int .i64 s2] 57) = w4 at *
 obtain ⟨i0, hE⟩ := elemU
 have HE := Lib.hid hE
 clear hE
 have sB := HB.out.size
 go_loopw [12, 13, 14] (fun ov pv iv wr => ∃ (j : Nat) (pb : Bool), j ≤ xs.length ∧ iv = .int .i64 j ∧ pv = .bool pb ∧ (e || anyGe lt u (xs.take j)) = pb ∧ wr.ownsRow w4.heap.size 107 5 ov (half lt e u ev (xs.take j)).length (flatU (half lt e u ev (xs.take j))) ∧ Below w4.heap.size w4 wr) (fun _ _ iv _ => xs.length - (intOf iv).toNat)
 case atStart => exact ⟨0, e, Nat.zero_le _, rfl, rfl, by simp [anyGe], by rw [List.take_zero, half_nil]; exact World.ownsRow_nil _ _ _ _, Below.refl _ _⟩
 case round =>
  obtain ⟨j, pb, hj, rfl, rfl, hpb, ho, hb⟩ := hrel
  obtain ⟨A4, c4, rfl, _⟩ := own_shape ho
  have HPB := Lib.hid hpb
  have HO := Lib.hid ho
  have HBW := Lib.hid hb
  have hfl : (half lt e u ev (xs.take j)).length ≤ 902 := by have := half_length (lt := lt) e u ev (xs.take j); simp at this; omega
  have sz := hb.size
  have HJ2 := Lib.hid (HI2.out.below hb HI2.out.lt)
  have p0 := HJ2.out.cell' (i := 0) rfl
  have p1 := HJ2.out.cell' (i := 1) rfl
  have p2 := HJ2.out.cell' (i := 2) rfl
  have lp := HJ2.out.lt
  clear hpb ho hb
  by_cases hlt : j < xs.length
  ·have HTK := Lib.hid (List.take_succ_eq_append_getElem hlt)
   have HRT : Hid (Rises lt (xs.take j ++ [xs[j]])) := by rw [← HTK.out]; exact List.Pairwise.sublist (List.take_sublist _ _) HRX.out
   obtain ⟨gb, off, rfl, _, lb, y0, y1, y2, y3, y4⟩ := HX.out.seq.us hlt
   have lr : gb < wr.heap.size := by omega
   generalize xs[j] = q at *
   obtain ⟨nm, vA, vn, vc, vs, vp, vl, vss⟩ := q
   simp only at y0 y1 y2 y3 y4
   have q0 := (HBW.out.cell (p := ⟨gb, off + j * 5, none⟩) lb).trans y0
   have q1 := (HBW.out.cell (p := ⟨gb, off + j * 5 + 1, none⟩) lb).trans y1
   have q2 := (HBW.out.cell (p := ⟨gb, off + j * 5 + 2, none⟩) lb).trans y2
   have q3 := (HBW.out.cell (p := ⟨gb, off + j * 5 + 3, none⟩) lb).trans y3
   have q4 := (HBW.out.cell (p := ⟨gb, off + j * 5 + 4, none⟩) lb).trans y4
   have HCQ : Hid (cellsU (nm, (⟨vA, vn, vc, vs, vp, vl, vss⟩ : EnV)) = [.string nm, .slice vA vn vc, .int .i64 vs, .int .i64 vp, .int .i64 vl]) := rfl
   generalize hvq : (⟨vA, vn, vc, vs, vp, vl, vss⟩ : EnV) = vq at *
   clear hvq
   cases pb with
   | true =>
     have HFA : Hid (half lt e u ev (xs.take j ++ [(nm, vq)]) = half lt e u ev (xs.take j) ++ (if nm = u then [] else [(nm, vq)]) ∧ (e || anyGe lt u (xs.take j ++ [(nm, vq)])) = true) := half_done tri HRT.out HPB.out
     by_cases he : nm = u
     ·rw [if_pos he] at HFA
      subst he
      have d1 : (nm.toList == nm.toList) = true := by simp
      generalize half lt e nm ev (xs.take j) = hf at *
      go_wp2_with fail
      go_roundw
      case rel =>
       refine ⟨j + 1, true, by omega, by go_num, rfl, by rw [HTK.out]; exact (HFA.out).2, ?_, HBW.out⟩
       rw [HTK.out, (HFA.out).1]
       simpa [flatU_app, flatU] using HO.out
      case measure => simp [intOf]; omega
     ·rw [if_neg he] at HFA
      have d1 : (nm.toList == u.toList) = false := by simpa using fun e => he (OmapB.ext e)
      clear he
      generalize half lt e u ev (xs.take j) = hf at *
      have bx7 := (Below.refl wr.heap.size wr).alloc (Nat.le_refl _) (.cells #[.string nm, .slice vA vn vc, .int .i64 vs, .int .i64 vp, .int .i64 vl] 107)
      have HQ7 : Hid (Lain 107 (wr.alloc (.cells #[.string nm, .slice vA vn vc, .int .i64 vs, .int .i64 vp, .int .i64 vl] 107)) (some ⟨wr.heap.size, 0, none⟩) (cellsU (nm, vq))) := Lain.is (Is.new wr 107 #[.string nm, .slice vA vn vc, .int .i64 vs, .int .i64 vp, .int .i64 vl] rfl) HCQ.out.symm
      have HO7 := Lib.hid (own_below HO.out bx7)
      have HB7 := Lib.hid (HBW.out.trans (bx7.mono HBW.out.size))
      clear bx7
      go_wp2_with (at_builtin; refine Law.wpList_append_seq _ w4.heap.size 84 rfl _ _ rfl HE.out _ _ _ rfl HO7.out 0 _ (some ⟨wr.heap.size, 0, none⟩) 1 1 (cellsU (nm, vq)) rfl (by rw [HCQ.out]; rfl) HQ7.out.seq (cellsU_one _) (by unfold maxLen; omega) (by omega) (by simp only [World.size_alloc]; omega) ?_; intro v8 w7 hown hgrow; obtain ⟨A8, c8, rfl, _⟩ := own_shape hown; have HO8 := Lib.hid hown; have HB8 := Lib.hid (HB7.out.grown hgrow (by simp only [World.size_alloc]; omega) (fun g hg => (HO7.out.lt g hg).1)); clear hown hgrow)
      go_roundw
      case rel =>
       refine ⟨j + 1, true, by omega, by go_num, rfl, by rw [HTK.out]; exact (HFA.out).2, ?_, HB8.out⟩
       rw [HTK.out, (HFA.out).1]
       simpa [flatU_app, flatU] using HO8.out
      case measure => simp [intOf]; omega
   | false =>
     obtain ⟨he, _⟩ := Bool.or_eq_false_iff.1 HPB.out
     subst he
     rcases cmp nm u with ⟨hq, d1, d2⟩ | ⟨hq, d1⟩ | ⟨hq, d1, d2, d3⟩
     ·have d3 : (nm.toList == u.toList) = false := by simpa using fun e => tri.ne hq (OmapB.ext e)
      have HFA := Lib.hid (half_small (v := ev) (q := (nm, vq)) HPB.out hq)
      clear hq
      generalize half lt false u ev (xs.take j) = hf at *
      have bx7 := (Below.refl wr.heap.size wr).alloc (Nat.le_refl _) (.cells #[.string nm, .slice vA vn vc, .int .i64 vs, .int .i64 vp, .int .i64 vl] 107)
      have HQ7 : Hid (Lain 107 (wr.alloc (.cells #[.string nm, .slice vA vn vc, .int .i64 vs, .int .i64 vp, .int .i64 vl] 107)) (some ⟨wr.heap.size, 0, none⟩) (cellsU (nm, vq))) := Lain.is (Is.new wr 107 #[.string nm, .slice vA vn vc, .int .i64 vs, .int .i64 vp, .int .i64 vl] rfl) HCQ.out.symm
      have HO7 := Lib.hid (own_below HO.out bx7)
      have HB7 := Lib.hid (HBW.out.trans (bx7.mono HBW.out.size))
      clear bx7
      go_wp2_with (at_builtin; refine Law.wpList_append_seq _ w4.heap.size 84 rfl _ _ rfl HE.out _ _ _ rfl HO7.out 0 _ (some ⟨wr.heap.size, 0, none⟩) 1 1 (cellsU (nm, vq)) rfl (by rw [HCQ.out]; rfl) HQ7.out.seq (cellsU_one _) (by unfold maxLen; omega) (by omega) (by simp only [World.size_alloc]; omega) ?_; intro v8 w7 hown hgrow; obtain ⟨A8, c8, rfl, _⟩ := own_shape hown; have HO8 := Lib.hid hown; have HB8 := Lib.hid (HB7.out.grown hgrow (by simp only [World.size_alloc]; omega) (fun g hg => (HO7.out.lt g hg).1)); clear hown hgrow)
      go_roundw
      case rel =>
       refine ⟨j + 1, false, by omega, by go_num, rfl, by rw [HTK.out]; exact (HFA.out).2, ?_, HB8.out⟩
       rw [HTK.out, (HFA.out).1]
       simpa [flatU_app, flatU] using HO8.out
      case measure => simp [intOf]; omega
     ·subst hq
      have HFA := Lib.hid (half_here tri (v := ev) HRT.out HPB.out rfl)
      have d3 : (nm.toList == nm.toList) = true := by simp
      generalize half lt false nm ev (xs.take j) = hf at *
      have bx7 := (Below.refl wr.heap.size wr).alloc (Nat.le_refl _) (.cells #[.string nm, .slice B ss.length d, .int .i64 s0, .int .i64 s1, .int .i64 s2] 107)
      have HQ7 : Hid (Lain 107 (wr.alloc (.cells #[.string nm, .slice B ss.length d, .int .i64 s0, .int .i64 s1, .int .i64 s2] 107)) (some ⟨wr.heap.size, 0, none⟩) (cellsU (nm, ev))) := Lain.is (Is.new wr 107 #[.string nm, .slice B ss.length d, .int .i64 s0, .int .i64 s1, .int .i64 s2] rfl) HCU.out.symm
      have HO7 := Lib.hid (own_below HO.out bx7)
      have HB7 := Lib.hid (HBW.out.trans (bx7.mono HBW.out.size))
      clear bx7
      go_wp2_with (at_builtin; refine Law.wpList_append_seq _ w4.heap.size 84 rfl _ _ rfl HE.out _ _ _ rfl HO7.out 0 _ (some ⟨wr.heap.size, 0, none⟩) 1 1 (cellsU (nm, ev)) rfl (by rw [HCU.out]; rfl) HQ7.out.seq (cellsU_one _) (by unfold maxLen; omega) (by omega) (by simp only [World.size_alloc]; omega) ?_; intro v8 w7 hown hgrow; obtain ⟨A8, c8, rfl, _⟩ := own_shape hown; have HO8 := Lib.hid hown; have HB8 := Lib.hid (HB7.out.grown hgrow (by simp only [World.size_alloc]; omega) (fun g hg => (HO7.out.lt g hg).1)); clear hown hgrow; have r0 := (HB8.out.cell (p := ⟨gb, off + j * 5, none⟩) lb).trans y0; have lr8 := Nat.lt_of_lt_of_le lb HB8.out.size)
      go_roundw
      case rel =>
       refine ⟨j + 1, true, by omega, by go_num, rfl, by rw [HTK.out]; exact (HFA.out).2, ?_, HB8.out⟩
       rw [HTK.out, (HFA.out).1]
       simpa [flatU_app, flatU] using HO8.out
      case measure => simp [intOf]; omega
     ·have HFA := Lib.hid (half_past tri (v := ev) (q := (nm, vq)) HPB.out hq)
      clear hq
      generalize half lt false u ev (xs.take j) = hf at *
      have bx7 := (Below.refl wr.heap.size wr).alloc (Nat.le_refl _) (.cells #[.string u, .slice B ss.length d, .int .i64 s0, .int .i64 s1, .int .i64 s2] 107)
      have HQ7 : Hid (Lain 107 (wr.alloc (.cells #[.string u, .slice B ss.length d, .int .i64 s0, .int .i64 s1, .int .i64 s2] 107)) (some ⟨wr.heap.size, 0, none⟩) (cellsU (u, ev))) := Lain.is (Is.new wr 107 #[.string u, .slice B ss.length d, .int .i64 s0, .int .i64 s1, .int .i64 s2] rfl) HCU.out.symm
      have HO7 := Lib.hid (own_below HO.out bx7)
      have HB7 := Lib.hid (HBW.out.trans (bx7.mono HBW.out.size))
      clear bx7
      go_wp2_with (first | (at_builtin; refine Law.wpList_append_seq _ w4.heap.size 84 rfl _ _ rfl HE.out _ _ _ rfl HO7.out 0 _ (some ⟨wr.heap.size, 0, none⟩) 1 1 (cellsU (u, ev)) rfl (by rw [HCU.out]; rfl) HQ7.out.seq (cellsU_one _) (by unfold maxLen; omega) (by omega) (by simp only [World.size_alloc]; omega) ?_; intro v8 w7 hown hgrow; obtain ⟨A8, c8, rfl, _⟩ := own_shape hown; have HO8 := Lib.hid hown; have HB8 := Lib.hid (HB7.out.grown hgrow (by simp only [World.size_alloc]; omega) (fun g hg => (HO7.out.lt g hg).1)); clear hown hgrow; have r0 := (HB8.out.cell (p := ⟨gb, off + j * 5, none⟩) lb).trans y0; have r1 := (HB8.out.cell (p := ⟨gb, off + j * 5 + 1, none⟩) lb).trans y1; have r2 := (HB8.out.cell (p := ⟨gb, off + j * 5 + 2, none⟩) lb).trans y2; have r3 := (HB8.out.cell (p := ⟨gb, off + j * 5 + 3, none⟩) lb).trans y3; have r4 := (HB8.out.cell (p := ⟨gb, off + j * 5 + 4, none⟩) lb).trans y4; have lr8 := Nat.lt_of_lt_of_le lb HB8.out.size; have sz8 := HB8.out.size; have bx9 := (Below.refl w7.heap.size w7).alloc (Nat.le_refl _) (.cells #[.string nm, .slice vA vn vc, .int .i64 vs, .int .i64 vp, .int .i64 vl] 107); have HQ9 : Hid (Lain 107 (w7.alloc (.cells #[.string nm, .slice vA vn vc, .int .i64 vs, .int .i64 vp, .int .i64 vl] 107)) (some ⟨w7.heap.size, 0, none⟩) (cellsU (nm, vq))) := Lain.is (Is.new w7 107 #[.string nm, .slice vA vn vc, .int .i64 vs, .int .i64 vp, .int .i64 vl] rfl) HCQ.out.symm; have HO9 := Lib.hid (own_below HO8.out bx9); have HB9 := Lib.hid (HB8.out.trans (bx9.mono HB8.out.size)); clear bx9) | (at_builtin; refine Law.wpList_append_seq _ w4.heap.size 84 rfl _ _ rfl HE.out _ _ _ rfl HO9.out 0 _ (some ⟨w7.heap.size, 0, none⟩) 1 1 (cellsU (nm, vq)) rfl (by rw [HCQ.out]; rfl) HQ9.out.seq (cellsU_one _) (by unfold maxLen; omega) (by omega) (by simp only [World.size_alloc]; omega) ?_; intro v10 w9 hown hgrow; obtain ⟨A10, c10, rfl, _⟩ := own_shape hown; have HO10 := Lib.hid hown; have HB10 := Lib.hid (HB9.out.grown hgrow (by simp only [World.size_alloc]; omega) (fun g hg => (HO9.out.lt g hg).1)); clear hown hgrow))
      go_roundw
      case rel =>
       refine ⟨j + 1, true, by omega, by go_num, rfl, by rw [HTK.out]; exact (HFA.out).2, ?_, HB10.out⟩
       rw [HTK.out, (HFA.out).1]
       simpa [flatU_app, flatU] using HO10.out
      case measure => simp [intOf]; omega
  ·have e1 : xs.take j = xs := List.take_of_length_le (by omega)
   rw [e1] at HPB HO hfl ⊢
   clear e1
   have HJ1 := Lib.hid (HI1.out.below HBW.out HI1.out.lt)
   have k2 := HJ1.out.cell' (i := 2) rfl
   have k3 := HJ1.out.cell' (i := 3) rfl
   have k4 := HJ1.out.cell' (i := 4) rfl
   have lk := HJ1.out.lt
   have HBE : Hid (become lt u ss now b = mapV EnV.en (if e = true then outK u xs else putK lt u ev xs)) := (become_half HEE.out HV.out HXB.out).symm
   have HMEM : Hid (∀ q ∈ (if e = true then outK u xs else putK lt u ev xs), q.2.In 138 w4) := fun q hq => by
    split at hq
    ·exact HIN.out q (List.mem_filter.1 hq).1
    ·rcases putK_mem lt hq with rfl | hq
     ·exact HVI.out
     ·exact HIN.out q hq
   cases pb with
   | true =>
     have HFL : Hid (half lt e u ev xs = if e = true then outK u xs else putK lt u ev xs) := half_all e u ev xs HPB.out
     rw [← HFL.out] at HBE HMEM
     clear HFL
     generalize half lt e u ev xs = hf at *
     by_cases q0 : s0 = t0
     ·by_cases q1 : s1 = t1
      ·by_cases q2 : s2 = t2
       ·have e1 : (s0 == t0) = true := by simpa using q0
        have e2 : (s1 == t1) = true := by simpa using q1
        have e3 : (s2 == t2) = true := by simpa using q2
        have HTL : Hid (tells u ss now b = []) := by show _ = _; rw [HTE.out, if_pos (by rw [q0, q1, q2])]
        clear q0 q1 q2
        go_wp2_with fail
        have HOZ := HO
        have HBZ := HBW
        refine bodyPost_ret (v := .tuple #[.slice A4 hf.length c4, .slice none 0 0]) (by simp [results, Tryz.results58, go_sem]) rfl ?_
        rw [HTL.out, HBE.out, mapV_length]
        refine ⟨A4, c4, none, 0, rfl, ⟨_, ?_, fun q hq => (HMEM.out q hq).keeps (Keeps.of_below HBZ.out), rfl⟩, Lain.nil, HB.out.trans (HBZ.out.mono HB.out.size)⟩
        exact Lain.own (by simpa [flatU_app, flatU] using HOZ.out)
       ·have e1 : (s0 == t0) = true := by simpa using q0
        have e2 : (s1 == t1) = true := by simpa using q1
        have e3 : (s2 == t2) = false := by simpa using q2
        have HTL : Hid (tells u ss now b = [(u, (t0, t1, t2), (s0, s1, s2))]) := by show _ = _; rw [HTE.out, if_neg (by intro h; injection h with h0 h; injection h with h1 h2; exact q2 h2)]
        clear q0 q1 q2
        go_wp2_with fail
        refine wp_region_held_drew (S := fun w' => w'.cell? ⟨w1.heap.size, 2, none⟩ = some (.int .i64 t0) ∧ w'.cell? ⟨w1.heap.size, 3, none⟩ = some (.int .i64 t1) ∧ w'.cell? ⟨w1.heap.size, 4, none⟩ = some (.int .i64 t2) ∧ w'.cell? ⟨w3.heap.size, 0, none⟩ = some (.int .i64 s0) ∧ w'.cell? ⟨w3.heap.size, 1, none⟩ = some (.int .i64 s1) ∧ w'.cell? ⟨w3.heap.size, 2, none⟩ = some (.int .i64 s2)) (by kernel_rfl) ⟨k2, k3, k4, p0, p1, p2⟩ (fun hS0 => ?_)
        refine Go.Law.tk 0 ⟨some 75, .move (.tmp 12), _, _, _, _⟩ (v := .slice A4 hf.length c4) hS0 ?_ ?_
        ·intro w' hSw
         go_simp
        try simp only [Go.Law.pz]
        refine Go.Law.tk 1 ⟨some 76, .move (.tmp 1), _, _, _, _⟩ (v := .string u) hS0 ?_ ?_
        ·intro w' hSw
         go_simp
        try simp only [Go.Law.pz]
        refine Go.Law.tk 2 ⟨some 77, .fieldAddr 107 (.tmp 10) 2, _, _, _, _⟩ (v := .pointer (some ⟨w1.heap.size, 2, none⟩)) hS0 ?_ ?_
        ·intro w' hSw
         go_simp
        try simp only [Go.Law.pz]
        refine Go.Law.tk 3 ⟨some 78, .load 57 (.tmp 77), _, _, _, _⟩ (v := .agg #[.int .i64 t0, .int .i64 t1, .int .i64 t2]) hS0 ?_ ?_
        ·intro w' hSw
         go_simp
        try simp only [Go.Law.pz]
        refine Go.Law.tk 4 ⟨some 79, .load 57 (.tmp 11), _, _, _, _⟩ (v := .agg #[.int .i64 s0, .int .i64 s1, .int .i64 s2]) hS0 ?_ ?_
        ·intro w' hSw
         go_simp
        try simp only [Go.Law.pz]
        refine Go.Law.tk 5 ⟨some 80, .build 131 #[(0, .tmp 76), (1, .tmp 78), (2, .tmp 79)], _, _, _, _⟩ (v := .agg #[.string u, .int .i64 t0, .int .i64 t1, .int .i64 t2, .int .i64 s0, .int .i64 s1, .int .i64 s2]) hS0 ?_ ?_
        ·intro w' hSw
         go_simp
        try simp only [Go.Law.pz]
        refine Go.Law.tk 7 ⟨some 8, .assign (.tmp 75), _, _, _, _⟩ (v := .slice A4 hf.length c4) hS0 ?_ ?_
        ·intro w' hSw
         go_simp
        try simp only [Go.Law.pz]
        have bz0 := (Below.refl wr.drew.heap.size wr.drew).alloc (Nat.le_refl _) (.cells #[.string u, .int .i64 t0, .int .i64 t1, .int .i64 t2, .int .i64 s0, .int .i64 s1, .int .i64 s2] 131)
        have bz : Below wr.heap.size wr (wr.alloc (.cells #[.string u, .int .i64 t0, .int .i64 t1, .int .i64 t2, .int .i64 s0, .int .i64 s1, .int .i64 s2] 131)).drew := Below.trans ((Below.refl wr.heap.size wr).alloc (Nat.le_refl _) (.cells #[.string u, .int .i64 t0, .int .i64 t1, .int .i64 t2, .int .i64 s0, .int .i64 s1, .int .i64 s2] 131)) ((Kept.drew (wr.alloc (.cells #[.string u, .int .i64 t0, .int .i64 t1, .int .i64 t2, .int .i64 s0, .int .i64 s1, .int .i64 s2] 131))).mono (by simp))
        have HIC : Hid (Is (wr.alloc (.cells #[.string u, .int .i64 t0, .int .i64 t1, .int .i64 t2, .int .i64 s0, .int .i64 s1, .int .i64 s2] 131)).drew wr.heap.size 131 #[.string u, .int .i64 t0, .int .i64 t1, .int .i64 t2, .int .i64 s0, .int .i64 s1, .int .i64 s2]) := (Is.new wr 131 #[.string u, .int .i64 t0, .int .i64 t1, .int .i64 t2, .int .i64 s0, .int .i64 s1, .int .i64 s2] rfl).drewN 1
        have HOZ := Lib.hid (own_below HO.out bz)
        have HBZ := Lib.hid (HBW.out.trans (bz.mono HBW.out.size))
        refine wpAnyH_ready (rs := [6]) (by kernel_rfl) (by simp) ?_
        refine AllReadyH.cons (o := ⟨some 81, .buildSlice 85 1 #[(0, .tmp 80)], _, _, _, _⟩) rfl (fun K hK => ?_) AllReadyH.nil
        go_simp
        refine hK.out _ _ (by obtain ⟨y1, y2, y3, y4, y5, y6⟩ := hS0; exact ⟨(bz0.cell (p := ⟨w1.heap.size, 2, none⟩) lk).trans y1, (bz0.cell (p := ⟨w1.heap.size, 3, none⟩) lk).trans y2, (bz0.cell (p := ⟨w1.heap.size, 4, none⟩) lk).trans y3, (bz0.cell (p := ⟨w3.heap.size, 0, none⟩) lp).trans y4, (bz0.cell (p := ⟨w3.heap.size, 1, none⟩) lp).trans y5, (bz0.cell (p := ⟨w3.heap.size, 2, none⟩) lp).trans y6⟩) (fun hS1 => ?_)
        clear hK K
        try simp only [Go.Law.pz]
        refine Go.Law.tk 8 ⟨some 9, .assign (.tmp 81), _, _, _, _⟩ (v := .slice (some ⟨wr.drew.heap.size, 0, none⟩) 1 1) hS1 ?_ ?_
        ·intro w' hSw
         go_simp
        try simp only [Go.Law.pz]
        refine wpAnyH_done (by kernel_rfl) ?_ _
        clear bz bz0 hS0 hS1
        generalize (wr.alloc (.cells #[.string u, .int .i64 t0, .int .i64 t1, .int .i64 t2, .int .i64 s0, .int .i64 s1, .int .i64 s2] 131)).drew = wz at *
        go_wp2_with fail
        refine bodyPost_ret (v := .tuple #[.slice A4 hf.length c4, .slice (some ⟨wr.drew.heap.size, 0, none⟩) 1 1]) (by simp [results, Tryz.results58, go_sem]) rfl ?_
        rw [HTL.out, HBE.out, mapV_length]
        refine ⟨A4, c4, _, _, rfl, ⟨_, ?_, fun q hq => (HMEM.out q hq).keeps (Keeps.of_below HBZ.out), rfl⟩, Lain.is HIC.out rfl, HB.out.trans (HBZ.out.mono HB.out.size)⟩
        exact Lain.own (by simpa [flatU_app, flatU] using HOZ.out)
      ·have e1 : (s0 == t0) = true := by simpa using q0
       have e2 : (s1 == t1) = false := by simpa using q1
       have HTL : Hid (tells u ss now b = [(u, (t0, t1, t2), (s0, s1, s2))]) := by show _ = _; rw [HTE.out, if_neg (by intro h; injection h with h0 h; injection h with h1 h2; exact q1 h1)]
       clear q0 q1
       go_wp2_with fail
       refine wp_region_held_drew (S := fun w' => w'.cell? ⟨w1.heap.size, 2, none⟩ = some (.int .i64 t0) ∧ w'.cell? ⟨w1.heap.size, 3, none⟩ = some (.int .i64 t1) ∧ w'.cell? ⟨w1.heap.size, 4, none⟩ = some (.int .i64 t2) ∧ w'.cell? ⟨w3.heap.size, 0, none⟩ = some (.int .i64 s0) ∧ w'.cell? ⟨w3.heap.size, 1, none⟩ = some (.int .i64 s1) ∧ w'.cell? ⟨w3.heap.size, 2, none⟩ = some (.int .i64 s2)) (by kernel_rfl) ⟨k2, k3, k4, p0, p1, p2⟩ (fun hS0 => ?_)
       refine Go.Law.tk 0 ⟨some 75, .move (.tmp 12), _, _, _, _⟩ (v := .slice A4 hf.length c4) hS0 ?_ ?_
       ·intro w' hSw
        go_simp
       try simp only [Go.Law.pz]
       refine Go.Law.tk 1 ⟨some 76, .move (.tmp 1), _, _, _, _⟩ (v := .string u) hS0 ?_ ?_
       ·intro w' hSw
        go_simp
       try simp only [Go.Law.pz]
       refine Go.Law.tk 2 ⟨some 77, .fieldAddr 107 (.tmp 10) 2, _, _, _, _⟩ (v := .pointer (some ⟨w1.heap.size, 2, none⟩)) hS0 ?_ ?_
       ·intro w' hSw
        go_simp
       try simp only [Go.Law.pz]
       refine Go.Law.tk 3 ⟨some 78, .load 57 (.tmp 77), _, _, _, _⟩ (v := .agg #[.int .i64 t0, .int .i64 t1, .int .i64 t2]) hS0 ?_ ?_
       ·intro w' hSw
        go_simp
       try simp only [Go.Law.pz]
       refine Go.Law.tk 4 ⟨some 79, .load 57 (.tmp 11), _, _, _, _⟩ (v := .agg #[.int .i64 s0, .int .i64 s1, .int .i64 s2]) hS0 ?_ ?_
       ·intro w' hSw
        go_simp
       try simp only [Go.Law.pz]
       refine Go.Law.tk 5 ⟨some 80, .build 131 #[(0, .tmp 76), (1, .tmp 78), (2, .tmp 79)], _, _, _, _⟩ (v := .agg #[.string u, .int .i64 t0, .int .i64 t1, .int .i64 t2, .int .i64 s0, .int .i64 s1, .int .i64 s2]) hS0 ?_ ?_
       ·intro w' hSw
        go_simp
       try simp only [Go.Law.pz]
       refine Go.Law.tk 7 ⟨some 8, .assign (.tmp 75), _, _, _, _⟩ (v := .slice A4 hf.length c4) hS0 ?_ ?_
       ·intro w' hSw
        go_simp
       try simp only [Go.Law.pz]
       have bz0 := (Below.refl wr.drew.heap.size wr.drew).alloc (Nat.le_refl _) (.cells #[.string u, .int .i64 t0, .int .i64 t1, .int .i64 t2, .int .i64 s0, .int .i64 s1, .int .i64 s2] 131)
       have bz : Below wr.heap.size wr (wr.alloc (.cells #[.string u, .int .i64 t0, .int .i64 t1, .int .i64 t2, .int .i64 s0, .int .i64 s1, .int .i64 s2] 131)).drew := Below.trans ((Below.refl wr.heap.size wr).alloc (Nat.le_refl _) (.cells #[.string u, .int .i64 t0, .int .i64 t1, .int .i64 t2, .int .i64 s0, .int .i64 s1, .int .i64 s2] 131)) ((Kept.drew (wr.alloc (.cells #[.string u, .int .i64 t0, .int .i64 t1, .int .i64 t2, .int .i64 s0, .int .i64 s1, .int .i64 s2] 131))).mono (by simp))
       have HIC : Hid (Is (wr.alloc (.cells #[.string u, .int .i64 t0, .int .i64 t1, .int .i64 t2, .int .i64 s0, .int .i64 s1, .int .i64 s2] 131)).drew wr.heap.size 131 #[.string u, .int .i64 t0, .int .i64 t1, .int .i64 t2, .int .i64 s0, .int .i64 s1, .int .i64 s2]) := (Is.new wr 131 #[.string u, .int .i64 t0, .int .i64 t1, .int .i64 t2, .int .i64 s0, .int .i64 s1, .int .i64 s2] rfl).drewN 1
       have HOZ := Lib.hid (own_below HO.out bz)
       have HBZ := Lib.hid (HBW.out.trans (bz.mono HBW.out.size))
       refine wpAnyH_ready (rs := [6]) (by kernel_rfl) (by simp) ?_
       refine AllReadyH.cons (o := ⟨some 81, .buildSlice 85 1 #[(0, .tmp 80)], _, _, _, _⟩) rfl (fun K hK => ?_) AllReadyH.nil
       go_simp
       refine hK.out _ _ (by obtain ⟨y1, y2, y3, y4, y5, y6⟩ := hS0; exact ⟨(bz0.cell (p := ⟨w1.heap.size, 2, none⟩) lk).trans y1, (bz0.cell (p := ⟨w1.heap.size, 3, none⟩) lk).trans y2, (bz0.cell (p := ⟨w1.heap.size, 4, none⟩) lk).trans y3, (bz0.cell (p := ⟨w3.heap.size, 0, none⟩) lp).trans y4, (bz0.cell (p := ⟨w3.heap.size, 1, none⟩) lp).trans y5, (bz0.cell (p := ⟨w3.heap.size, 2, none⟩) lp).trans y6⟩) (fun hS1 => ?_)
       clear hK K
       try simp only [Go.Law.pz]
       refine Go.Law.tk 8 ⟨some 9, .assign (.tmp 81), _, _, _, _⟩ (v := .slice (some ⟨wr.drew.heap.size, 0, none⟩) 1 1) hS1 ?_ ?_
       ·intro w' hSw
        go_simp
       try simp only [Go.Law.pz]
       refine wpAnyH_done (by kernel_rfl) ?_ _
       clear bz bz0 hS0 hS1
       generalize (wr.alloc (.cells #[.string u, .int .i64 t0, .int .i64 t1, .int .i64 t2, .int .i64 s0, .int .i64 s1, .int .i64 s2] 131)).drew = wz at *
       go_wp2_with fail
       refine bodyPost_ret (v := .tuple #[.slice A4 hf.length c4, .slice (some ⟨wr.drew.heap.size, 0, none⟩) 1 1]) (by simp [results, Tryz.results58, go_sem]) rfl ?_
       rw [HTL.out, HBE.out, mapV_length]
       refine ⟨A4, c4, _, _, rfl, ⟨_, ?_, fun q hq => (HMEM.out q hq).keeps (Keeps.of_below HBZ.out), rfl⟩, Lain.is HIC.out rfl, HB.out.trans (HBZ.out.mono HB.out.size)⟩
       exact Lain.own (by simpa [flatU_app, flatU] using HOZ.out)
     ·have e1 : (s0 == t0) = false := by simpa using q0
      have HTL : Hid (tells u ss now b = [(u, (t0, t1, t2), (s0, s1, s2))]) := by show _ = _; rw [HTE.out, if_neg (by intro h; injection h with h0 h; injection h with h1 h2; exact q0 h0)]
      clear q0
      go_wp2_with fail
      refine wp_region_held_drew (S := fun w' => w'.cell? ⟨w1.heap.size, 2, none⟩ = some (.int .i64 t0) ∧ w'.cell? ⟨w1.heap.size, 3, none⟩ = some (.int .i64 t1) ∧ w'.cell? ⟨w1.heap.size, 4, none⟩ = some (.int .i64 t2) ∧ w'.cell? ⟨w3.heap.size, 0, none⟩ = some (.int .i64 s0) ∧ w'.cell? ⟨w3.heap.size, 1, none⟩ = some (.int .i64 s1) ∧ w'.cell? ⟨w3.heap.size, 2, none⟩ = some (.int .i64 s2)) (by kernel_rfl) ⟨k2, k3, k4, p0, p1, p2⟩ (fun hS0 => ?_)
      refine Go.Law.tk 0 ⟨some 75, .move (.tmp 12), _, _, _, _⟩ (v := .slice A4 hf.length c4) hS0 ?_ ?_
      ·intro w' hSw
       go_simp
      try simp only [Go.Law.pz]
      refine Go.Law.tk 1 ⟨some 76, .move (.tmp 1), _, _, _, _⟩ (v := .string u) hS0 ?_ ?_
      ·intro w' hSw
       go_simp
      try simp only [Go.Law.pz]
      refine Go.Law.tk 2 ⟨some 77, .fieldAddr 107 (.tmp 10) 2, _, _, _, _⟩ (v := .pointer (some ⟨w1.heap.size, 2, none⟩)) hS0 ?_ ?_
      ·intro w' hSw
       go_simp
      try simp only [Go.Law.pz]
      refine Go.Law.tk 3 ⟨some 78, .load 57 (.tmp 77), _, _, _, _⟩ (v := .agg #[.int .i64 t0, .int .i64 t1, .int .i64 t2]) hS0 ?_ ?_
      ·intro w' hSw
       go_simp
      try simp only [Go.Law.pz]
      refine Go.Law.tk 4 ⟨some 79, .load 57 (.tmp 11), _, _, _, _⟩ (v := .agg #[.int .i64 s0, .int .i64 s1, .int .i64 s2]) hS0 ?_ ?_
      ·intro w' hSw
       go_simp
      try simp only [Go.Law.pz]
      refine Go.Law.tk 5 ⟨some 80, .build 131 #[(0, .tmp 76), (1, .tmp 78), (2, .tmp 79)], _, _, _, _⟩ (v := .agg #[.string u, .int .i64 t0, .int .i64 t1, .int .i64 t2, .int .i64 s0, .int .i64 s1, .int .i64 s2]) hS0 ?_ ?_
      ·intro w' hSw
       go_simp
      try simp only [Go.Law.pz]
      refine Go.Law.tk 7 ⟨some 8, .assign (.tmp 75), _, _, _, _⟩ (v := .slice A4 hf.length c4) hS0 ?_ ?_
      ·intro w' hSw
       go_simp
      try simp only [Go.Law.pz]
      have bz0 := (Below.refl wr.drew.heap.size wr.drew).alloc (Nat.le_refl _) (.cells #[.string u, .int .i64 t0, .int .i64 t1, .int .i64 t2, .int .i64 s0, .int .i64 s1, .int .i64 s2] 131)
      have bz : Below wr.heap.size wr (wr.alloc (.cells #[.string u, .int .i64 t0, .int .i64 t1, .int .i64 t2, .int .i64 s0, .int .i64 s1, .int .i64 s2] 131)).drew := Below.trans ((Below.refl wr.heap.size wr).alloc (Nat.le_refl _) (.cells #[.string u, .int .i64 t0, .int .i64 t1, .int .i64 t2, .int .i64 s0, .int .i64 s1, .int .i64 s2] 131)) ((Kept.drew (wr.alloc (.cells #[.string u, .int .i64 t0, .int .i64 t1, .int .i64 t2, .int .i64 s0, .int .i64 s1, .int .i64 s2] 131))).mono (by simp))
      have HIC : Hid (Is (wr.alloc (.cells #[.string u, .int .i64 t0, .int .i64 t1, .int .i64 t2, .int .i64 s0, .int .i64 s1, .int .i64 s2] 131)).drew wr.heap.size 131 #[.string u, .int .i64 t0, .int .i64 t1, .int .i64 t2, .int .i64 s0, .int .i64 s1, .int .i64 s2]) := (Is.new wr 131 #[.string u, .int .i64 t0, .int .i64 t1, .int .i64 t2, .int .i64 s0, .int .i64 s1, .int .i64 s2] rfl).drewN 1
      have HOZ := Lib.hid (own_below HO.out bz)
      have HBZ := Lib.hid (HBW.out.trans (bz.mono HBW.out.size))
      refine wpAnyH_ready (rs := [6]) (by kernel_rfl) (by simp) ?_
      refine AllReadyH.cons (o := ⟨some 81, .buildSlice 85 1 #[(0, .tmp 80)], _, _, _, _⟩) rfl (fun K hK => ?_) AllReadyH.nil
      go_simp
      refine hK.out _ _ (by obtain ⟨y1, y2, y3, y4, y5, y6⟩ := hS0; exact ⟨(bz0.cell (p := ⟨w1.heap.size, 2, none⟩) lk).trans y1, (bz0.cell (p := ⟨w1.heap.size, 3, none⟩) lk).trans y2, (bz0.cell (p := ⟨w1.heap.size, 4, none⟩) lk).trans y3, (bz0.cell (p := ⟨w3.heap.size, 0, none⟩) lp).trans y4, (bz0.cell (p := ⟨w3.heap.size, 1, none⟩) lp).trans y5, (bz0.cell (p := ⟨w3.heap.size, 2, none⟩) lp).trans y6⟩) (fun hS1 => ?_)
      clear hK K
      try simp only [Go.Law.pz]
      refine Go.Law.tk 8 ⟨some 9, .assign (.tmp 81), _, _, _, _⟩ (v := .slice (some ⟨wr.drew.heap.size, 0, none⟩) 1 1) hS1 ?_ ?_
      ·intro w' hSw
       go_simp
      try simp only [Go.Law.pz]
      refine wpAnyH_done (by kernel_rfl) ?_ _
      clear bz bz0 hS0 hS1
      generalize (wr.alloc (.cells #[.string u, .int .i64 t0, .int .i64 t1, .int .i64 t2, .int .i64 s0, .int .i64 s1, .int .i64 s2] 131)).drew = wz at *
      go_wp2_with fail
      refine bodyPost_ret (v := .tuple #[.slice A4 hf.length c4, .slice (some ⟨wr.drew.heap.size, 0, none⟩) 1 1]) (by simp [results, Tryz.results58, go_sem]) rfl ?_
      rw [HTL.out, HBE.out, mapV_length]
      refine ⟨A4, c4, _, _, rfl, ⟨_, ?_, fun q hq => (HMEM.out q hq).keeps (Keeps.of_below HBZ.out), rfl⟩, Lain.is HIC.out rfl, HB.out.trans (HBZ.out.mono HB.out.size)⟩
      exact Lain.own (by simpa [flatU_app, flatU] using HOZ.out)
   | false =>
     have HFL : Hid (half lt e u ev xs ++ [(u, ev)] = if e = true then outK u xs else putK lt u ev xs) := half_rest tri e u ev xs HPB.out
     rw [← HFL.out] at HBE HMEM
     clear HFL
     generalize half lt e u ev xs = hf at *
     have bx7 := (Below.refl wr.heap.size wr).alloc (Nat.le_refl _) (.cells #[.string u, .slice B ss.length d, .int .i64 s0, .int .i64 s1, .int .i64 s2] 107)
     have HQ7 : Hid (Lain 107 (wr.alloc (.cells #[.string u, .slice B ss.length d, .int .i64 s0, .int .i64 s1, .int .i64 s2] 107)) (some ⟨wr.heap.size, 0, none⟩) (cellsU (u, ev))) := Lain.is (Is.new wr 107 #[.string u, .slice B ss.length d, .int .i64 s0, .int .i64 s1, .int .i64 s2] rfl) HCU.out.symm
     have HO7 := Lib.hid (own_below HO.out bx7)
     have HB7 := Lib.hid (HBW.out.trans (bx7.mono HBW.out.size))
     have HJ1_7 := Lib.hid (HJ1.out.below bx7 HJ1.out.lt)
     have HJ2_7 := Lib.hid (HJ2.out.below bx7 HJ2.out.lt)
     clear bx7
     by_cases q0 : s0 = t0
     ·by_cases q1 : s1 = t1
      ·by_cases q2 : s2 = t2
       ·have e1 : (s0 == t0) = true := by simpa using q0
        have e2 : (s1 == t1) = true := by simpa using q1
        have e3 : (s2 == t2) = true := by simpa using q2
        have HTL : Hid (tells u ss now b = []) := by show _ = _; rw [HTE.out, if_pos (by rw [q0, q1, q2])]
        clear q0 q1 q2
        go_wp2_with (at_builtin; refine Law.wpList_append_seq _ w4.heap.size 84 rfl _ _ rfl HE.out _ _ _ rfl HO7.out 0 _ (some ⟨wr.heap.size, 0, none⟩) 1 1 (cellsU (u, ev)) rfl (by rw [HCU.out]; rfl) HQ7.out.seq (cellsU_one _) (by unfold maxLen; omega) (by omega) (by simp only [World.size_alloc]; omega) ?_; intro v8 w7 hown hgrow; obtain ⟨A8, c8, rfl, _⟩ := own_shape hown; have HO8 := Lib.hid hown; have HB8 := Lib.hid (HB7.out.grown hgrow (by simp only [World.size_alloc]; omega) (fun g hg => (HO7.out.lt g hg).1)); clear hown hgrow; have J1 := HI1.out.below HB8.out HI1.out.lt; have J2 := HI2.out.below HB8.out HI2.out.lt; have k2 := J1.cell' (i := 2) rfl; have k3 := J1.cell' (i := 3) rfl; have k4 := J1.cell' (i := 4) rfl; have lk := J1.lt; have p0 := J2.cell' (i := 0) rfl; have p1 := J2.cell' (i := 1) rfl; have p2 := J2.cell' (i := 2) rfl; have lp := J2.lt; clear J1 J2)
        have HOZ := HO8
        have HBZ := HB8
        refine bodyPost_ret (v := .tuple #[.slice A8 (hf.length + 1) c8, .slice none 0 0]) (by simp [results, Tryz.results58, go_sem]) rfl ?_
        rw [HTL.out, HBE.out, mapV_length]
        refine ⟨A8, c8, none, 0, by rw [List.length_append]; rfl, ⟨_, ?_, fun q hq => (HMEM.out q hq).keeps (Keeps.of_below HBZ.out), rfl⟩, Lain.nil, HB.out.trans (HBZ.out.mono HB.out.size)⟩
        exact Lain.own (by simpa [flatU_app, flatU] using HOZ.out)
       ·have e1 : (s0 == t0) = true := by simpa using q0
        have e2 : (s1 == t1) = true := by simpa using q1
        have e3 : (s2 == t2) = false := by simpa using q2
        have HTL : Hid (tells u ss now b = [(u, (t0, t1, t2), (s0, s1, s2))]) := by show _ = _; rw [HTE.out, if_neg (by intro h; injection h with h0 h; injection h with h1 h2; exact q2 h2)]
        clear q0 q1 q2
        go_wp2_with (at_builtin; refine Law.wpList_append_seq _ w4.heap.size 84 rfl _ _ rfl HE.out _ _ _ rfl HO7.out 0 _ (some ⟨wr.heap.size, 0, none⟩) 1 1 (cellsU (u, ev)) rfl (by rw [HCU.out]; rfl) HQ7.out.seq (cellsU_one _) (by unfold maxLen; omega) (by omega) (by simp only [World.size_alloc]; omega) ?_; intro v8 w7 hown hgrow; obtain ⟨A8, c8, rfl, _⟩ := own_shape hown; have HO8 := Lib.hid hown; have HB8 := Lib.hid (HB7.out.grown hgrow (by simp only [World.size_alloc]; omega) (fun g hg => (HO7.out.lt g hg).1)); clear hown hgrow; have J1 := HI1.out.below HB8.out HI1.out.lt; have J2 := HI2.out.below HB8.out HI2.out.lt; have k2 := J1.cell' (i := 2) rfl; have k3 := J1.cell' (i := 3) rfl; have k4 := J1.cell' (i := 4) rfl; have lk := J1.lt; have p0 := J2.cell' (i := 0) rfl; have p1 := J2.cell' (i := 1) rfl; have p2 := J2.cell' (i := 2) rfl; have lp := J2.lt; clear J1 J2)
        refine wp_region_held_drew (S := fun w' => w'.cell? ⟨w1.heap.size, 2, none⟩ = some (.int .i64 t0) ∧ w'.cell? ⟨w1.heap.size, 3, none⟩ = some (.int .i64 t1) ∧ w'.cell? ⟨w1.heap.size, 4, none⟩ = some (.int .i64 t2) ∧ w'.cell? ⟨w3.heap.size, 0, none⟩ = some (.int .i64 s0) ∧ w'.cell? ⟨w3.heap.size, 1, none⟩ = some (.int .i64 s1) ∧ w'.cell? ⟨w3.heap.size, 2, none⟩ = some (.int .i64 s2)) (by kernel_rfl) ⟨k2, k3, k4, p0, p1, p2⟩ (fun hS0 => ?_)
        refine Go.Law.tk 0 ⟨some 75, .move (.tmp 12), _, _, _, _⟩ (v := .slice A8 (hf.length + 1) c8) hS0 ?_ ?_
        ·intro w' hSw
         go_simp
        try simp only [Go.Law.pz]
        refine Go.Law.tk 1 ⟨some 76, .move (.tmp 1), _, _, _, _⟩ (v := .string u) hS0 ?_ ?_
        ·intro w' hSw
         go_simp
        try simp only [Go.Law.pz]
        refine Go.Law.tk 2 ⟨some 77, .fieldAddr 107 (.tmp 10) 2, _, _, _, _⟩ (v := .pointer (some ⟨w1.heap.size, 2, none⟩)) hS0 ?_ ?_
        ·intro w' hSw
         go_simp
        try simp only [Go.Law.pz]
        refine Go.Law.tk 3 ⟨some 78, .load 57 (.tmp 77), _, _, _, _⟩ (v := .agg #[.int .i64 t0, .int .i64 t1, .int .i64 t2]) hS0 ?_ ?_
        ·intro w' hSw
         go_simp
        try simp only [Go.Law.pz]
        refine Go.Law.tk 4 ⟨some 79, .load 57 (.tmp 11), _, _, _, _⟩ (v := .agg #[.int .i64 s0, .int .i64 s1, .int .i64 s2]) hS0 ?_ ?_
        ·intro w' hSw
         go_simp
        try simp only [Go.Law.pz]
        refine Go.Law.tk 5 ⟨some 80, .build 131 #[(0, .tmp 76), (1, .tmp 78), (2, .tmp 79)], _, _, _, _⟩ (v := .agg #[.string u, .int .i64 t0, .int .i64 t1, .int .i64 t2, .int .i64 s0, .int .i64 s1, .int .i64 s2]) hS0 ?_ ?_
        ·intro w' hSw
         go_simp
        try simp only [Go.Law.pz]
        refine Go.Law.tk 7 ⟨some 8, .assign (.tmp 75), _, _, _, _⟩ (v := .slice A8 (hf.length + 1) c8) hS0 ?_ ?_
        ·intro w' hSw
         go_simp
        try simp only [Go.Law.pz]
        have bz0 := (Below.refl w7.drew.heap.size w7.drew).alloc (Nat.le_refl _) (.cells #[.string u, .int .i64 t0, .int .i64 t1, .int .i64 t2, .int .i64 s0, .int .i64 s1, .int .i64 s2] 131)
        have bz : Below w7.heap.size w7 (w7.alloc (.cells #[.string u, .int .i64 t0, .int .i64 t1, .int .i64 t2, .int .i64 s0, .int .i64 s1, .int .i64 s2] 131)).drew := Below.trans ((Below.refl w7.heap.size w7).alloc (Nat.le_refl _) (.cells #[.string u, .int .i64 t0, .int .i64 t1, .int .i64 t2, .int .i64 s0, .int .i64 s1, .int .i64 s2] 131)) ((Kept.drew (w7.alloc (.cells #[.string u, .int .i64 t0, .int .i64 t1, .int .i64 t2, .int .i64 s0, .int .i64 s1, .int .i64 s2] 131))).mono (by simp))
        have HIC : Hid (Is (w7.alloc (.cells #[.string u, .int .i64 t0, .int .i64 t1, .int .i64 t2, .int .i64 s0, .int .i64 s1, .int .i64 s2] 131)).drew w7.heap.size 131 #[.string u, .int .i64 t0, .int .i64 t1, .int .i64 t2, .int .i64 s0, .int .i64 s1, .int .i64 s2]) := (Is.new w7 131 #[.string u, .int .i64 t0, .int .i64 t1, .int .i64 t2, .int .i64 s0, .int .i64 s1, .int .i64 s2] rfl).drewN 1
        have HOZ := Lib.hid (own_below HO8.out bz)
        have HBZ := Lib.hid (HB8.out.trans (bz.mono HB8.out.size))
        refine wpAnyH_ready (rs := [6]) (by kernel_rfl) (by simp) ?_
        refine AllReadyH.cons (o := ⟨some 81, .buildSlice 85 1 #[(0, .tmp 80)], _, _, _, _⟩) rfl (fun K hK => ?_) AllReadyH.nil
        go_simp
        refine hK.out _ _ (by obtain ⟨y1, y2, y3, y4, y5, y6⟩ := hS0; exact ⟨(bz0.cell (p := ⟨w1.heap.size, 2, none⟩) lk).trans y1, (bz0.cell (p := ⟨w1.heap.size, 3, none⟩) lk).trans y2, (bz0.cell (p := ⟨w1.heap.size, 4, none⟩) lk).trans y3, (bz0.cell (p := ⟨w3.heap.size, 0, none⟩) lp).trans y4, (bz0.cell (p := ⟨w3.heap.size, 1, none⟩) lp).trans y5, (bz0.cell (p := ⟨w3.heap.size, 2, none⟩) lp).trans y6⟩) (fun hS1 => ?_)
        clear hK K
        try simp only [Go.Law.pz]
        refine Go.Law.tk 8 ⟨some 9, .assign (.tmp 81), _, _, _, _⟩ (v := .slice (some ⟨w7.drew.heap.size, 0, none⟩) 1 1) hS1 ?_ ?_
        ·intro w' hSw
         go_simp
        try simp only [Go.Law.pz]
        refine wpAnyH_done (by kernel_rfl) ?_ _
        clear bz bz0 hS0 hS1
        generalize (w7.alloc (.cells #[.string u, .int .i64 t0, .int .i64 t1, .int .i64 t2, .int .i64 s0, .int .i64 s1, .int .i64 s2] 131)).drew = wz at *
        go_wp2_with fail
        refine bodyPost_ret (v := .tuple #[.slice A8 (hf.length + 1) c8, .slice (some ⟨w7.drew.heap.size, 0, none⟩) 1 1]) (by simp [results, Tryz.results58, go_sem]) rfl ?_
        rw [HTL.out, HBE.out, mapV_length]
        refine ⟨A8, c8, _, _, by rw [List.length_append]; rfl, ⟨_, ?_, fun q hq => (HMEM.out q hq).keeps (Keeps.of_below HBZ.out), rfl⟩, Lain.is HIC.out rfl, HB.out.trans (HBZ.out.mono HB.out.size)⟩
        exact Lain.own (by simpa [flatU_app, flatU] using HOZ.out)
      ·have e1 : (s0 == t0) = true := by simpa using q0
       have e2 : (s1 == t1) = false := by simpa using q1
       have HTL : Hid (tells u ss now b = [(u, (t0, t1, t2), (s0, s1, s2))]) := by show _ = _; rw [HTE.out, if_neg (by intro h; injection h with h0 h; injection h with h1 h2; exact q1 h1)]
       clear q0 q1
       go_wp2_with (at_builtin; refine Law.wpList_append_seq _ w4.heap.size 84 rfl _ _ rfl HE.out _ _ _ rfl HO7.out 0 _ (some ⟨wr.heap.size, 0, none⟩) 1 1 (cellsU (u, ev)) rfl (by rw [HCU.out]; rfl) HQ7.out.seq (cellsU_one _) (by unfold maxLen; omega) (by omega) (by simp only [World.size_alloc]; omega) ?_; intro v8 w7 hown hgrow; obtain ⟨A8, c8, rfl, _⟩ := own_shape hown; have HO8 := Lib.hid hown; have HB8 := Lib.hid (HB7.out.grown hgrow (by simp only [World.size_alloc]; omega) (fun g hg => (HO7.out.lt g hg).1)); clear hown hgrow; have J1 := HI1.out.below HB8.out HI1.out.lt; have J2 := HI2.out.below HB8.out HI2.out.lt; have k2 := J1.cell' (i := 2) rfl; have k3 := J1.cell' (i := 3) rfl; have k4 := J1.cell' (i := 4) rfl; have lk := J1.lt; have p0 := J2.cell' (i := 0) rfl; have p1 := J2.cell' (i := 1) rfl; have p2 := J2.cell' (i := 2) rfl; have lp := J2.lt; clear J1 J2)
       refine wp_region_held_drew (S := fun w' => w'.cell? ⟨w1.heap.size, 2, none⟩ = some (.int .i64 t0) ∧ w'.cell? ⟨w1.heap.size, 3, none⟩ = some (.int .i64 t1) ∧ w'.cell? ⟨w1.heap.size, 4, none⟩ = some (.int .i64 t2) ∧ w'.cell? ⟨w3.heap.size, 0, none⟩ = some (.int .i64 s0) ∧ w'.cell? ⟨w3.heap.size, 1, none⟩ = some (.int .i64 s1) ∧ w'.cell? ⟨w3.heap.size, 2, none⟩ = some (.int .i64 s2)) (by kernel_rfl) ⟨k2, k3, k4, p0, p1, p2⟩ (fun hS0 => ?_)
       refine Go.Law.tk 0 ⟨some 75, .move (.tmp 12), _, _, _, _⟩ (v := .slice A8 (hf.length + 1) c8) hS0 ?_ ?_
       ·intro w' hSw
        go_simp
       try simp only [Go.Law.pz]
       refine Go.Law.tk 1 ⟨some 76, .move (.tmp 1), _, _, _, _⟩ (v := .string u) hS0 ?_ ?_
       ·intro w' hSw
        go_simp
       try simp only [Go.Law.pz]
       refine Go.Law.tk 2 ⟨some 77, .fieldAddr 107 (.tmp 10) 2, _, _, _, _⟩ (v := .pointer (some ⟨w1.heap.size, 2, none⟩)) hS0 ?_ ?_
       ·intro w' hSw
        go_simp
       try simp only [Go.Law.pz]
       refine Go.Law.tk 3 ⟨some 78, .load 57 (.tmp 77), _, _, _, _⟩ (v := .agg #[.int .i64 t0, .int .i64 t1, .int .i64 t2]) hS0 ?_ ?_
       ·intro w' hSw
        go_simp
       try simp only [Go.Law.pz]
       refine Go.Law.tk 4 ⟨some 79, .load 57 (.tmp 11), _, _, _, _⟩ (v := .agg #[.int .i64 s0, .int .i64 s1, .int .i64 s2]) hS0 ?_ ?_
       ·intro w' hSw
        go_simp
       try simp only [Go.Law.pz]
       refine Go.Law.tk 5 ⟨some 80, .build 131 #[(0, .tmp 76), (1, .tmp 78), (2, .tmp 79)], _, _, _, _⟩ (v := .agg #[.string u, .int .i64 t0, .int .i64 t1, .int .i64 t2, .int .i64 s0, .int .i64 s1, .int .i64 s2]) hS0 ?_ ?_
       ·intro w' hSw
        go_simp
       try simp only [Go.Law.pz]
       refine Go.Law.tk 7 ⟨some 8, .assign (.tmp 75), _, _, _, _⟩ (v := .slice A8 (hf.length + 1) c8) hS0 ?_ ?_
       ·intro w' hSw
        go_simp
       try simp only [Go.Law.pz]
       have bz0 := (Below.refl w7.drew.heap.size w7.drew).alloc (Nat.le_refl _) (.cells #[.string u, .int .i64 t0, .int .i64 t1, .int .i64 t2, .int .i64 s0, .int .i64 s1, .int .i64 s2] 131)
       have bz : Below w7.heap.size w7 (w7.alloc (.cells #[.string u, .int .i64 t0, .int .i64 t1, .int .i64 t2, .int .i64 s0, .int .i64 s1, .int .i64 s2] 131)).drew := Below.trans ((Below.refl w7.heap.size w7).alloc (Nat.le_refl _) (.cells #[.string u, .int .i64 t0, .int .i64 t1, .int .i64 t2, .int .i64 s0, .int .i64 s1, .int .i64 s2] 131)) ((Kept.drew (w7.alloc (.cells #[.string u, .int .i64 t0, .int .i64 t1, .int .i64 t2, .int .i64 s0, .int .i64 s1, .int .i64 s2] 131))).mono (by simp))
       have HIC : Hid (Is (w7.alloc (.cells #[.string u, .int .i64 t0, .int .i64 t1, .int .i64 t2, .int .i64 s0, .int .i64 s1, .int .i64 s2] 131)).drew w7.heap.size 131 #[.string u, .int .i64 t0, .int .i64 t1, .int .i64 t2, .int .i64 s0, .int .i64 s1, .int .i64 s2]) := (Is.new w7 131 #[.string u, .int .i64 t0, .int .i64 t1, .int .i64 t2, .int .i64 s0, .int .i64 s1, .int .i64 s2] rfl).drewN 1
       have HOZ := Lib.hid (own_below HO8.out bz)
       have HBZ := Lib.hid (HB8.out.trans (bz.mono HB8.out.size))
       refine wpAnyH_ready (rs := [6]) (by kernel_rfl) (by simp) ?_
       refine AllReadyH.cons (o := ⟨some 81, .buildSlice 85 1 #[(0, .tmp 80)], _, _, _, _⟩) rfl (fun K hK => ?_) AllReadyH.nil
       go_simp
       refine hK.out _ _ (by obtain ⟨y1, y2, y3, y4, y5, y6⟩ := hS0; exact ⟨(bz0.cell (p := ⟨w1.heap.size, 2, none⟩) lk).trans y1, (bz0.cell (p := ⟨w1.heap.size, 3, none⟩) lk).trans y2, (bz0.cell (p := ⟨w1.heap.size, 4, none⟩) lk).trans y3, (bz0.cell (p := ⟨w3.heap.size, 0, none⟩) lp).trans y4, (bz0.cell (p := ⟨w3.heap.size, 1, none⟩) lp).trans y5, (bz0.cell (p := ⟨w3.heap.size, 2, none⟩) lp).trans y6⟩) (fun hS1 => ?_)
       clear hK K
       try simp only [Go.Law.pz]
       refine Go.Law.tk 8 ⟨some 9, .assign (.tmp 81), _, _, _, _⟩ (v := .slice (some ⟨w7.drew.heap.size, 0, none⟩) 1 1) hS1 ?_ ?_
       ·intro w' hSw
        go_simp
       try simp only [Go.Law.pz]
       refine wpAnyH_done (by kernel_rfl) ?_ _
       clear bz bz0 hS0 hS1
       generalize (w7.alloc (.cells #[.string u, .int .i64 t0, .int .i64 t1, .int .i64 t2, .int .i64 s0, .int .i64 s1, .int .i64 s2] 131)).drew = wz at *
       go_wp2_with fail
       refine bodyPost_ret (v := .tuple #[.slice A8 (hf.length + 1) c8, .slice (some ⟨w7.drew.heap.size, 0, none⟩) 1 1]) (by simp [results, Tryz.results58, go_sem]) rfl ?_
       rw [HTL.out, HBE.out, mapV_length]
       refine ⟨A8, c8, _, _, by rw [List.length_append]; rfl, ⟨_, ?_, fun q hq => (HMEM.out q hq).keeps (Keeps.of_below HBZ.out), rfl⟩, Lain.is HIC.out rfl, HB.out.trans (HBZ.out.mono HB.out.size)⟩
       exact Lain.own (by simpa [flatU_app, flatU] using HOZ.out)
     ·have e1 : (s0 == t0) = false := by simpa using q0
      have HTL : Hid (tells u ss now b = [(u, (t0, t1, t2), (s0, s1, s2))]) := by show _ = _; rw [HTE.out, if_neg (by intro h; injection h with h0 h; injection h with h1 h2; exact q0 h0)]
      clear q0
      go_wp2_with (at_builtin; refine Law.wpList_append_seq _ w4.heap.size 84 rfl _ _ rfl HE.out _ _ _ rfl HO7.out 0 _ (some ⟨wr.heap.size, 0, none⟩) 1 1 (cellsU (u, ev)) rfl (by rw [HCU.out]; rfl) HQ7.out.seq (cellsU_one _) (by unfold maxLen; omega) (by omega) (by simp only [World.size_alloc]; omega) ?_; intro v8 w7 hown hgrow; obtain ⟨A8, c8, rfl, _⟩ := own_shape hown; have HO8 := Lib.hid hown; have HB8 := Lib.hid (HB7.out.grown hgrow (by simp only [World.size_alloc]; omega) (fun g hg => (HO7.out.lt g hg).1)); clear hown hgrow; have J1 := HI1.out.below HB8.out HI1.out.lt; have J2 := HI2.out.below HB8.out HI2.out.lt; have k2 := J1.cell' (i := 2) rfl; have k3 := J1.cell' (i := 3) rfl; have k4 := J1.cell' (i := 4) rfl; have lk := J1.lt; have p0 := J2.cell' (i := 0) rfl; have p1 := J2.cell' (i := 1) rfl; have p2 := J2.cell' (i := 2) rfl; have lp := J2.lt; clear J1 J2)
      refine wp_region_held_drew (S := fun w' => w'.cell? ⟨w1.heap.size, 2, none⟩ = some (.int .i64 t0) ∧ w'.cell? ⟨w1.heap.size, 3, none⟩ = some (.int .i64 t1) ∧ w'.cell? ⟨w1.heap.size, 4, none⟩ = some (.int .i64 t2) ∧ w'.cell? ⟨w3.heap.size, 0, none⟩ = some (.int .i64 s0) ∧ w'.cell? ⟨w3.heap.size, 1, none⟩ = some (.int .i64 s1) ∧ w'.cell? ⟨w3.heap.size, 2, none⟩ = some (.int .i64 s2)) (by kernel_rfl) ⟨k2, k3, k4, p0, p1, p2⟩ (fun hS0 => ?_)
      refine Go.Law.tk 0 ⟨some 75, .move (.tmp 12), _, _, _, _⟩ (v := .slice A8 (hf.length + 1) c8) hS0 ?_ ?_
      ·intro w' hSw
       go_simp
      try simp only [Go.Law.pz]
      refine Go.Law.tk 1 ⟨some 76, .move (.tmp 1), _, _, _, _⟩ (v := .string u) hS0 ?_ ?_
      ·intro w' hSw
       go_simp
      try simp only [Go.Law.pz]
      refine Go.Law.tk 2 ⟨some 77, .fieldAddr 107 (.tmp 10) 2, _, _, _, _⟩ (v := .pointer (some ⟨w1.heap.size, 2, none⟩)) hS0 ?_ ?_
      ·intro w' hSw
       go_simp
      try simp only [Go.Law.pz]
      refine Go.Law.tk 3 ⟨some 78, .load 57 (.tmp 77), _, _, _, _⟩ (v := .agg #[.int .i64 t0, .int .i64 t1, .int .i64 t2]) hS0 ?_ ?_
      ·intro w' hSw
       go_simp
      try simp only [Go.Law.pz]
      refine Go.Law.tk 4 ⟨some 79, .load 57 (.tmp 11), _, _, _, _⟩ (v := .agg #[.int .i64 s0, .int .i64 s1, .int .i64 s2]) hS0 ?_ ?_
      ·intro w' hSw
       go_simp
      try simp only [Go.Law.pz]
      refine Go.Law.tk 5 ⟨some 80, .build 131 #[(0, .tmp 76), (1, .tmp 78), (2, .tmp 79)], _, _, _, _⟩ (v := .agg #[.string u, .int .i64 t0, .int .i64 t1, .int .i64 t2, .int .i64 s0, .int .i64 s1, .int .i64 s2]) hS0 ?_ ?_
      ·intro w' hSw
       go_simp
      try simp only [Go.Law.pz]
      refine Go.Law.tk 7 ⟨some 8, .assign (.tmp 75), _, _, _, _⟩ (v := .slice A8 (hf.length + 1) c8) hS0 ?_ ?_
      ·intro w' hSw
       go_simp
      try simp only [Go.Law.pz]
      have bz0 := (Below.refl w7.drew.heap.size w7.drew).alloc (Nat.le_refl _) (.cells #[.string u, .int .i64 t0, .int .i64 t1, .int .i64 t2, .int .i64 s0, .int .i64 s1, .int .i64 s2] 131)
      have bz : Below w7.heap.size w7 (w7.alloc (.cells #[.string u, .int .i64 t0, .int .i64 t1, .int .i64 t2, .int .i64 s0, .int .i64 s1, .int .i64 s2] 131)).drew := Below.trans ((Below.refl w7.heap.size w7).alloc (Nat.le_refl _) (.cells #[.string u, .int .i64 t0, .int .i64 t1, .int .i64 t2, .int .i64 s0, .int .i64 s1, .int .i64 s2] 131)) ((Kept.drew (w7.alloc (.cells #[.string u, .int .i64 t0, .int .i64 t1, .int .i64 t2, .int .i64 s0, .int .i64 s1, .int .i64 s2] 131))).mono (by simp))
      have HIC : Hid (Is (w7.alloc (.cells #[.string u, .int .i64 t0, .int .i64 t1, .int .i64 t2, .int .i64 s0, .int .i64 s1, .int .i64 s2] 131)).drew w7.heap.size 131 #[.string u, .int .i64 t0, .int .i64 t1, .int .i64 t2, .int .i64 s0, .int .i64 s1, .int .i64 s2]) := (Is.new w7 131 #[.string u, .int .i64 t0, .int .i64 t1, .int .i64 t2, .int .i64 s0, .int .i64 s1, .int .i64 s2] rfl).drewN 1
      have HOZ := Lib.hid (own_below HO8.out bz)
      have HBZ := Lib.hid (HB8.out.trans (bz.mono HB8.out.size))
      refine wpAnyH_ready (rs := [6]) (by kernel_rfl) (by simp) ?_
      refine AllReadyH.cons (o := ⟨some 81, .buildSlice 85 1 #[(0, .tmp 80)], _, _, _, _⟩) rfl (fun K hK => ?_) AllReadyH.nil
      go_simp
      refine hK.out _ _ (by obtain ⟨y1, y2, y3, y4, y5, y6⟩ := hS0; exact ⟨(bz0.cell (p := ⟨w1.heap.size, 2, none⟩) lk).trans y1, (bz0.cell (p := ⟨w1.heap.size, 3, none⟩) lk).trans y2, (bz0.cell (p := ⟨w1.heap.size, 4, none⟩) lk).trans y3, (bz0.cell (p := ⟨w3.heap.size, 0, none⟩) lp).trans y4, (bz0.cell (p := ⟨w3.heap.size, 1, none⟩) lp).trans y5, (bz0.cell (p := ⟨w3.heap.size, 2, none⟩) lp).trans y6⟩) (fun hS1 => ?_)
      clear hK K
      try simp only [Go.Law.pz]
      refine Go.Law.tk 8 ⟨some 9, .assign (.tmp 81), _, _, _, _⟩ (v := .slice (some ⟨w7.drew.heap.size, 0, none⟩) 1 1) hS1 ?_ ?_
      ·intro w' hSw
       go_simp
      try simp only [Go.Law.pz]
      refine wpAnyH_done (by kernel_rfl) ?_ _
      clear bz bz0 hS0 hS1
      generalize (w7.alloc (.cells #[.string u, .int .i64 t0, .int .i64 t1, .int .i64 t2, .int .i64 s0, .int .i64 s1, .int .i64 s2] 131)).drew = wz at *
      go_wp2_with fail
      refine bodyPost_ret (v := .tuple #[.slice A8 (hf.length + 1) c8, .slice (some ⟨w7.drew.heap.size, 0, none⟩) 1 1]) (by simp [results, Tryz.results58, go_sem]) rfl ?_
      rw [HTL.out, HBE.out, mapV_length]
      refine ⟨A8, c8, _, _, by rw [List.length_append]; rfl, ⟨_, ?_, fun q hq => (HMEM.out q hq).keeps (Keeps.of_below HBZ.out), rfl⟩, Lain.is HIC.out rfl, HB.out.trans (HBZ.out.mono HB.out.size)⟩
      exact Lain.own (by simpa [flatU_app, flatU] using HOZ.out)
end Bk
end Go.Proofs.YtohdlnefgieenaaGreat
namespace Go.Proofs.YtohdlnefgieenaaGreat
open Go.RowKit
namespace Bk
open Go.Law Go.Proofs.YtohdlnefgieenaaGreat.OmapB Door

section
variable {us ls : List Sn} {A : Option Addr} {c : Nat} {w : World} {er : Int}
theorem refSet_ {s : Sn} {most : Int} (h : SetTo s most us ls er) (hs : Lain 138 w A (flatS us)) (hl : us.length ≤ 900) (hu : Up us) : Calls Tryz.prog 63 #[.slice A us.length c, V s, .int .i64 most] w (Gives w ls er) := by
 rcases h with ⟨h, rfl, rfl⟩ | ⟨h, hm, rfl, rfl⟩ | ⟨h, hm, rfl, rfl⟩
 ·exact (Sess.refSetPut s most us A c w hs.seq hl hu true h (.inl rfl)).mono fun _ _ h => gives h
 ·exact (Sess.refSetFull s most _ A c w hs.seq hl h hm).mono fun _ w' ⟨h1, h2⟩ => ⟨A, c, h1, hs.now h2, h2⟩
 ·exact (Sess.refSetPut s most us A c w hs.seq hl hu false h (.inr hm)).mono fun _ _ h => gives h
theorem refBeat_ {k u : Int} (h : BeatTo k u us ls er) (hs : Lain 138 w A (flatS us)) (hl : us.length ≤ 900) : Calls Tryz.prog 64 #[.slice A us.length c, .int .i64 k, .int .u64 u] w (Gives w ls er) := by
 rcases h with ⟨h, rfl, rfl⟩ | ⟨h, rfl, rfl⟩
 ·exact (Sess.refBeatOne k u us A c w hs.seq hl h).mono fun _ _ h => gives h
 ·exact (Sess.refBeatNo k u _ A c w hs.seq hl h).mono fun _ w' ⟨h1, h2⟩ => ⟨A, c, h1, hs.now h2, h2⟩
theorem refPurge_ {now : Int} (e : live now us = ls) (hs : Lain 138 w A (flatS us)) (hl : us.length ≤ 900) : Calls Tryz.prog 59 #[.slice A us.length c, .int .u64 now] w fun e w' => ∃ A c, e = .returned (.slice A ls.length c) ∧ Lain 138 w' A (flatS ls) ∧ Below w.heap.size w w' := by
 subst e
 exact (Sess.refPurge now us A c w hs.seq hl).mono fun _ _ ⟨A, c, he, hr, hb⟩ => ⟨A, c, he, Lain.own hr, hb⟩
theorem refClear_ {k : Int} (hs : Lain 138 w A (flatS us)) (hl : us.length ≤ 900) : Calls Tryz.prog 66 #[.slice A us.length c, .int .i64 k] w fun e w' => ∃ A c, e = .returned (.slice A (out k us).length c) ∧ Lain 138 w' A (flatS (out k us)) ∧ Below w.heap.size w w' := 
 (Sess.refClear k us A c w hs.seq hl).mono fun _ _ ⟨A, c, he, hr, hb⟩ => ⟨A, c, he, Lain.own hr, hb⟩
theorem refHas_ {k : Int} {b : Bool} (e : hasS k us = b) (hs : Lain 138 w A (flatS us)) (hl : us.length ≤ 900) : Calls Tryz.prog 65 #[.slice A us.length c, .int .i64 k] w fun e w' => e = .returned (.bool b) ∧ w' = w := by
 subst e
 exact (Sess.refHas k us A c w hs.seq (by omega)).mono fun _ _ ⟨h1, h2⟩ => ⟨h1, h2.symm⟩
end
def RWrote (w : World) (b : List (ByteArray × En)) (cs : List Ch) (er : Int) (e : Ending) (w' : World) : Prop := ∃ A1 c1 A c, e = .returned (.tuple #[.slice A1 b.length c1, .slice A cs.length c, .int .i64 er]) ∧ UsersAt w' A1 b ∧ Lain 131 w' A (flatC cs) ∧ Below w.heap.size w w'

set_option maxRecDepth 100000 in
set_option maxHeartbeats 4000000 in
theorem refWrite (q : OpV) (now most : Int) {w : World} {A : Option Addr} {c : Nat} {b : List (ByteArray × En)} (hU : U now) (hT : U q.ttl) (h : UsersAt w A b) (hb : Book lt b) (hl : (sesK q.user b).length ≤ 899) (hn : b.length ≤ 900) :
  Calls Tryz.prog 35 #[.slice A b.length c, q.val, .int .u64 now, .int .i64 most] w (RWrote w (wrB q now most b) (wrC q now most b) (wrE q now most b)) := by
 obtain ⟨kind, user, id, st, pr, ttl, users⟩ := q
 obtain ⟨t0, t1, t2, ht⟩ : ∃ t0 t1 t2, toldK user b = (t0, t1, t2) := ⟨_, _, _, rfl⟩
 obtain ⟨ss, hss⟩ : ∃ ss, sesK user b = ss := ⟨_, rfl⟩
 obtain ⟨us, hus⟩ : ∃ us, live now ss = us := ⟨_, rfl⟩
 have hup : Up us := by rw [← hus, ← hss]; exact live_up now (hb.ses lt user)
 have hul : us.length ≤ 899 := by rw [← hus]; have := live_length now ss; rw [← hss] at this ⊢; simp only at hl; omega
 have hsl : ss.length ≤ 899 := by rw [← hss]; exact hl
 unfold wrB wrC wrE wrS
 simp only [OpV.val, hss, hus]
 obtain ⟨un, hun⟩ : ∃ un, sat now ttl = un := ⟨_, rfl⟩
 rw [hun]
 have HUN := Lib.hid hun
 clear hun
 have H := Lib.hid h
 have HBK := Lib.hid hb
 have HT := Lib.hid ht
 have HSS := Lib.hid hss
 have HUS := Lib.hid hus
 have HUP := Lib.hid hup
 have HB := Lib.hid (Below.refl w.heap.size w)
 have HU1 := Lib.hid hU
 have HU2 : Hid (U ttl) := hT
 clear h hb ht hss hus hup hU hT hl
 by_cases k1 : kind = 1
 ·subst k1
  obtain ⟨ls, hls⟩ : ∃ ls, (wrote 1 id st pr un most us).1 = ls := ⟨_, rfl⟩
  obtain ⟨er, her⟩ : ∃ er, (wrote 1 id st pr un most us).2 = er := ⟨_, rfl⟩
  rw [hls, her]
  have hll : ls.length ≤ 900 := by rw [← hls]; have := wrote_le 1 id st pr un most us; omega
  have HLS_ := Lib.hid hls
  have HER_ := Lib.hid her
  clear hls her
  go_enter Tryz.func35, Tryz.ntmps35
  go_wp2_with fail
  have HI0 := Lib.hid (Is.new w 37 #[.int .i64 1, .string user, .int .i64 id, .int .i64 st, .int .i64 pr, .int .u64 ttl, users] rfl)
  have bx := (Below.refl w.heap.size w).alloc (Nat.le_refl _) (.cells #[.int .i64 1, .string user, .int .i64 id, .int .i64 st, .int .i64 pr, .int .u64 ttl, users] 37)
  replace H := Lib.hid (H.out.now bx)
  replace HB := Lib.hid (HB.out.trans (bx.mono HB.out.size))
  generalize w.alloc (.cells #[.int .i64 1, .string user, .int .i64 id, .int .i64 st, .int .i64 pr, .int .u64 ttl, users] 37) = w1 at *
  clear bx
  refine (refFind user HSS.out HT.out H.out HBK.out.1 hn).mono ?_
  rintro e w2 ⟨A2, c2, rfl, s2, b1⟩
  have HS2 := Lib.hid s2
  replace H := Lib.hid (H.out.now b1)
  replace HB := Lib.hid (HB.out.trans (b1.mono HB.out.size))
  replace HI0 := Lib.hid (HI0.out.below b1 HI0.out.lt)
  clear b1 s2
  go_wp2_with fail
  refine (refPurge_ HUS.out HS2.out (by omega)).mono ?_
  rintro e w3 ⟨A3, c3, rfl, s3, b1⟩
  have HS := Lib.hid s3
  replace H := Lib.hid (H.out.now b1)
  replace HB := Lib.hid (HB.out.trans (b1.mono HB.out.size))
  replace HI0 := Lib.hid (HI0.out.below b1 HI0.out.lt)
  clear b1 s3 HS2
  have i0 := HI0.out.cell' (i := 0) rfl
  have i1 := HI0.out.cell' (i := 1) rfl
  have i2 := HI0.out.cell' (i := 2) rfl
  have i3 := HI0.out.cell' (i := 3) rfl
  have i4 := HI0.out.cell' (i := 4) rfl
  have i5 := HI0.out.cell' (i := 5) rfl
  have i6 := HI0.out.cell' (i := 6) rfl
  go_wp2_with fail
  refine (Tick.refAdd now ttl HU1.out HU2.out _).mono ?_
  rintro e w' ⟨rfl, rfl⟩
  rw [HUN.out]
  have hls := HLS_.out
  have her := HER_.out
  clear HLS_ HER_
  have HWS : Hid (SetTo (id, st, pr, un) most us ls er) := by rw [← hls, ← her]; exact wrote_set id st pr un most us
  clear hls her
  go_wp2_with fail
  refine (refSet_ HWS.out HS.out (by omega) HUP.out).mono ?_
  rintro e w4 ⟨A4, c4, rfl, s4, b1⟩
  have HG := Lib.hid s4
  replace H := Lib.hid (H.out.now b1)
  replace HB := Lib.hid (HB.out.trans (b1.mono HB.out.size))
  replace HI0 := Lib.hid (HI0.out.below b1 HI0.out.lt)
  clear b1 s4 HS HWS i0 i1 i2 i3 i4 i5 i6
  have i1 := HI0.out.cell' (i := 1) rfl
  go_wp2_with fail
  refine (refBecome user ls now H.out HBK.out.1 HG.out hll hn).mono ?_
  rintro e w5 ⟨A5, c5, A6, c6, rfl, u5, l5, b1⟩
  have HZ := Lib.hid (And.intro u5 (And.intro l5 (HB.out.trans (b1.mono HB.out.size))))
  clear b1 u5 l5 HG H HB HI0
  go_wp2_with fail
  exact bodyPost_ret (v := .tuple #[.slice A5 (become lt user ls now b).length c5, .slice A6 (tells user ls now b).length c6, .int .i64 er]) (by simp [results, Tryz.results35, go_sem]) rfl ⟨A5, c5, A6, c6, rfl, HZ.out.1, HZ.out.2.1, HZ.out.2.2⟩
 ·by_cases k2 : kind = 2
  ·subst k2
   obtain ⟨ls, hls⟩ : ∃ ls, (wrote 2 id st pr un most us).1 = ls := ⟨_, rfl⟩
   obtain ⟨er, her⟩ : ∃ er, (wrote 2 id st pr un most us).2 = er := ⟨_, rfl⟩
   rw [hls, her]
   have hll : ls.length ≤ 900 := by rw [← hls]; have := wrote_le 2 id st pr un most us; omega
   have HLS_ := Lib.hid hls
   have HER_ := Lib.hid her
   clear hls her
   go_enter Tryz.func35, Tryz.ntmps35
   go_wp2_with fail
   have HI0 := Lib.hid (Is.new w 37 #[.int .i64 2, .string user, .int .i64 id, .int .i64 st, .int .i64 pr, .int .u64 ttl, users] rfl)
   have bx := (Below.refl w.heap.size w).alloc (Nat.le_refl _) (.cells #[.int .i64 2, .string user, .int .i64 id, .int .i64 st, .int .i64 pr, .int .u64 ttl, users] 37)
   replace H := Lib.hid (H.out.now bx)
   replace HB := Lib.hid (HB.out.trans (bx.mono HB.out.size))
   generalize w.alloc (.cells #[.int .i64 2, .string user, .int .i64 id, .int .i64 st, .int .i64 pr, .int .u64 ttl, users] 37) = w1 at *
   clear bx
   refine (refFind user HSS.out HT.out H.out HBK.out.1 hn).mono ?_
   rintro e w2 ⟨A2, c2, rfl, s2, b1⟩
   have HS2 := Lib.hid s2
   replace H := Lib.hid (H.out.now b1)
   replace HB := Lib.hid (HB.out.trans (b1.mono HB.out.size))
   replace HI0 := Lib.hid (HI0.out.below b1 HI0.out.lt)
   clear b1 s2
   go_wp2_with fail
   refine (refPurge_ HUS.out HS2.out (by omega)).mono ?_
   rintro e w3 ⟨A3, c3, rfl, s3, b1⟩
   have HS := Lib.hid s3
   replace H := Lib.hid (H.out.now b1)
   replace HB := Lib.hid (HB.out.trans (b1.mono HB.out.size))
   replace HI0 := Lib.hid (HI0.out.below b1 HI0.out.lt)
   clear b1 s3 HS2
   have i0 := HI0.out.cell' (i := 0) rfl
   have i1 := HI0.out.cell' (i := 1) rfl
   have i2 := HI0.out.cell' (i := 2) rfl
   have i3 := HI0.out.cell' (i := 3) rfl
   have i4 := HI0.out.cell' (i := 4) rfl
   have i5 := HI0.out.cell' (i := 5) rfl
   have i6 := HI0.out.cell' (i := 6) rfl
   go_wp2_with fail
   refine (Tick.refAdd now ttl HU1.out HU2.out _).mono ?_
   rintro e w' ⟨rfl, rfl⟩
   rw [HUN.out]
   have hls := HLS_.out
   have her := HER_.out
   clear HLS_ HER_
   have HWS : Hid (BeatTo id un us ls er) := by rw [← hls, ← her]; exact wrote_beat id st pr un most us
   clear hls her
   go_wp2_with fail
   refine (refBeat_ HWS.out HS.out (by omega)).mono ?_
   rintro e w4 ⟨A4, c4, rfl, s4, b1⟩
   have HG := Lib.hid s4
   replace H := Lib.hid (H.out.now b1)
   replace HB := Lib.hid (HB.out.trans (b1.mono HB.out.size))
   replace HI0 := Lib.hid (HI0.out.below b1 HI0.out.lt)
   clear b1 s4 HS HWS i0 i1 i2 i3 i4 i5 i6
   have i1 := HI0.out.cell' (i := 1) rfl
   go_wp2_with fail
   refine (refBecome user ls now H.out HBK.out.1 HG.out hll hn).mono ?_
   rintro e w5 ⟨A5, c5, A6, c6, rfl, u5, l5, b1⟩
   have HZ := Lib.hid (And.intro u5 (And.intro l5 (HB.out.trans (b1.mono HB.out.size))))
   clear b1 u5 l5 HG H HB HI0
   go_wp2_with fail
   exact bodyPost_ret (v := .tuple #[.slice A5 (become lt user ls now b).length c5, .slice A6 (tells user ls now b).length c6, .int .i64 er]) (by simp [results, Tryz.results35, go_sem]) rfl ⟨A5, c5, A6, c6, rfl, HZ.out.1, HZ.out.2.1, HZ.out.2.2⟩
  ·by_cases k3 : kind = 3
   ·subst k3
    obtain ⟨ls, hls⟩ : ∃ ls, (wrote 3 id st pr un most us).1 = ls := ⟨_, rfl⟩
    obtain ⟨er, her⟩ : ∃ er, (wrote 3 id st pr un most us).2 = er := ⟨_, rfl⟩
    rw [hls, her]
    have hll : ls.length ≤ 900 := by rw [← hls]; have := wrote_le 3 id st pr un most us; omega
    have HLS_ := Lib.hid hls
    have HER_ := Lib.hid her
    clear hls her
    go_enter Tryz.func35, Tryz.ntmps35
    go_wp2_with fail
    have HI0 := Lib.hid (Is.new w 37 #[.int .i64 3, .string user, .int .i64 id, .int .i64 st, .int .i64 pr, .int .u64 ttl, users] rfl)
    have bx := (Below.refl w.heap.size w).alloc (Nat.le_refl _) (.cells #[.int .i64 3, .string user, .int .i64 id, .int .i64 st, .int .i64 pr, .int .u64 ttl, users] 37)
    replace H := Lib.hid (H.out.now bx)
    replace HB := Lib.hid (HB.out.trans (bx.mono HB.out.size))
    generalize w.alloc (.cells #[.int .i64 3, .string user, .int .i64 id, .int .i64 st, .int .i64 pr, .int .u64 ttl, users] 37) = w1 at *
    clear bx
    refine (refFind user HSS.out HT.out H.out HBK.out.1 hn).mono ?_
    rintro e w2 ⟨A2, c2, rfl, s2, b1⟩
    have HS2 := Lib.hid s2
    replace H := Lib.hid (H.out.now b1)
    replace HB := Lib.hid (HB.out.trans (b1.mono HB.out.size))
    replace HI0 := Lib.hid (HI0.out.below b1 HI0.out.lt)
    clear b1 s2
    go_wp2_with fail
    refine (refPurge_ HUS.out HS2.out (by omega)).mono ?_
    rintro e w3 ⟨A3, c3, rfl, s3, b1⟩
    have HS := Lib.hid s3
    replace H := Lib.hid (H.out.now b1)
    replace HB := Lib.hid (HB.out.trans (b1.mono HB.out.size))
    replace HI0 := Lib.hid (HI0.out.below b1 HI0.out.lt)
    clear b1 s3 HS2
    have i0 := HI0.out.cell' (i := 0) rfl
    have i1 := HI0.out.cell' (i := 1) rfl
    have i2 := HI0.out.cell' (i := 2) rfl
    have i3 := HI0.out.cell' (i := 3) rfl
    have i4 := HI0.out.cell' (i := 4) rfl
    have i5 := HI0.out.cell' (i := 5) rfl
    have i6 := HI0.out.cell' (i := 6) rfl
    go_wp2_with fail
    refine (Tick.refAdd now ttl HU1.out HU2.out _).mono ?_
    rintro e w' ⟨rfl, rfl⟩
    rw [HUN.out]
    have hls := HLS_.out
    have her := HER_.out
    clear HLS_ HER_
    rw [wrote_clear] at hls her
    simp only at hls her
    obtain ⟨hv, hh⟩ : ∃ hv, hasS id us = hv := ⟨_, rfl⟩
    rw [hh] at her
    have HH := Lib.hid hh
    have HLS := Lib.hid hls
    have HER := Lib.hid her
    clear hh hls her
    go_wp2_with fail
    refine (refHas_ HH.out HS.out (by omega)).mono ?_
    rintro e w' ⟨rfl, rfl⟩
    cases hv with
    | true =>
      have he : er = 0 := HER.out.symm
      subst he
      go_wp2_with fail
      refine (refClear_ HS.out (by omega)).mono ?_
      rw [HLS.out]
      rintro e w4 ⟨A4, c4, rfl, s4, b1⟩
      have HG := Lib.hid s4
      replace H := Lib.hid (H.out.now b1)
      replace HB := Lib.hid (HB.out.trans (b1.mono HB.out.size))
      replace HI0 := Lib.hid (HI0.out.below b1 HI0.out.lt)
      clear b1 s4 HS i0 i1 i2 i3 i4 i5 i6
      have i1 := HI0.out.cell' (i := 1) rfl
      go_wp2_with fail
      refine (refBecome user ls now H.out HBK.out.1 HG.out hll hn).mono ?_
      rintro e w5 ⟨A5, c5, A6, c6, rfl, u5, l5, b1⟩
      have HZ := Lib.hid (And.intro u5 (And.intro l5 (HB.out.trans (b1.mono HB.out.size))))
      clear b1 u5 l5 HG H HB HI0
      go_wp2_with fail
      exact bodyPost_ret (v := .tuple #[.slice A5 (become lt user ls now b).length c5, .slice A6 (tells user ls now b).length c6, .int .i64 0]) (by simp [results, Tryz.results35, go_sem]) rfl ⟨A5, c5, A6, c6, rfl, HZ.out.1, HZ.out.2.1, HZ.out.2.2⟩
    | false =>
      have he : er = 3 := HER.out.symm
      subst he
      go_wp2_with fail
      refine (refClear_ HS.out (by omega)).mono ?_
      rw [HLS.out]
      rintro e w4 ⟨A4, c4, rfl, s4, b1⟩
      have HG := Lib.hid s4
      replace H := Lib.hid (H.out.now b1)
      replace HB := Lib.hid (HB.out.trans (b1.mono HB.out.size))
      replace HI0 := Lib.hid (HI0.out.below b1 HI0.out.lt)
      clear b1 s4 HS i0 i1 i2 i3 i4 i5 i6
      have i1 := HI0.out.cell' (i := 1) rfl
      go_wp2_with fail
      refine (refBecome user ls now H.out HBK.out.1 HG.out hll hn).mono ?_
      rintro e w5 ⟨A5, c5, A6, c6, rfl, u5, l5, b1⟩
      have HZ := Lib.hid (And.intro u5 (And.intro l5 (HB.out.trans (b1.mono HB.out.size))))
      clear b1 u5 l5 HG H HB HI0
      go_wp2_with fail
      exact bodyPost_ret (v := .tuple #[.slice A5 (become lt user ls now b).length c5, .slice A6 (tells user ls now b).length c6, .int .i64 3]) (by simp [results, Tryz.results35, go_sem]) rfl ⟨A5, c5, A6, c6, rfl, HZ.out.1, HZ.out.2.1, HZ.out.2.2⟩
   ·have d1 : (kind == 1) = false := by simpa using k1
    have d2 : (kind == 2) = false := by simpa using k2
    have d3 : (kind == 3) = false := by simpa using k3
    obtain ⟨ls, hls⟩ : ∃ ls, (wrote kind id st pr un most us).1 = ls := ⟨_, rfl⟩
    obtain ⟨er, her⟩ : ∃ er, (wrote kind id st pr un most us).2 = er := ⟨_, rfl⟩
    rw [hls, her]
    have hll : ls.length ≤ 900 := by rw [← hls]; have := wrote_le kind id st pr un most us; omega
    rw [wrote_else _ _ _ _ _ _ k1 k2 k3] at hls her
    simp only at hls her
    subst hls her
    go_enter Tryz.func35, Tryz.ntmps35
    go_wp2_with fail
    have HI0 := Lib.hid (Is.new w 37 #[.int .i64 kind, .string user, .int .i64 id, .int .i64 st, .int .i64 pr, .int .u64 ttl, users] rfl)
    have bx := (Below.refl w.heap.size w).alloc (Nat.le_refl _) (.cells #[.int .i64 kind, .string user, .int .i64 id, .int .i64 st, .int .i64 pr, .int .u64 ttl, users] 37)
    replace H := Lib.hid (H.out.now bx)
    replace HB := Lib.hid (HB.out.trans (bx.mono HB.out.size))
    generalize w.alloc (.cells #[.int .i64 kind, .string user, .int .i64 id, .int .i64 st, .int .i64 pr, .int .u64 ttl, users] 37) = w1 at *
    clear bx
    refine (refFind user HSS.out HT.out H.out HBK.out.1 hn).mono ?_
    rintro e w2 ⟨A2, c2, rfl, s2, b1⟩
    have HS2 := Lib.hid s2
    replace H := Lib.hid (H.out.now b1)
    replace HB := Lib.hid (HB.out.trans (b1.mono HB.out.size))
    replace HI0 := Lib.hid (HI0.out.below b1 HI0.out.lt)
    clear b1 s2
    go_wp2_with fail
    refine (refPurge_ HUS.out HS2.out (by omega)).mono ?_
    rintro e w3 ⟨A3, c3, rfl, s3, b1⟩
    have HS := Lib.hid s3
    replace H := Lib.hid (H.out.now b1)
    replace HB := Lib.hid (HB.out.trans (b1.mono HB.out.size))
    replace HI0 := Lib.hid (HI0.out.below b1 HI0.out.lt)
    clear b1 s3 HS2
    have i0 := HI0.out.cell' (i := 0) rfl
    have i1 := HI0.out.cell' (i := 1) rfl
    have i2 := HI0.out.cell' (i := 2) rfl
    have i3 := HI0.out.cell' (i := 3) rfl
    have i4 := HI0.out.cell' (i := 4) rfl
    have i5 := HI0.out.cell' (i := 5) rfl
    have i6 := HI0.out.cell' (i := 6) rfl
    go_wp2_with fail
    refine (Tick.refAdd now ttl HU1.out HU2.out _).mono ?_
    rintro e w' ⟨rfl, rfl⟩
    rw [HUN.out]
    go_wp2_with fail
    have HG := HS
    refine (refBecome user us now H.out HBK.out.1 HG.out hll hn).mono ?_
    rintro e w5 ⟨A5, c5, A6, c6, rfl, u5, l5, b1⟩
    have HZ := Lib.hid (And.intro u5 (And.intro l5 (HB.out.trans (b1.mono HB.out.size))))
    clear b1 u5 l5 HG H HB HI0
    go_wp2_with fail
    exact bodyPost_ret (v := .tuple #[.slice A5 (become lt user us now b).length c5, .slice A6 (tells user us now b).length c6, .int .i64 0]) (by simp [results, Tryz.results35, go_sem]) rfl ⟨A5, c5, A6, c6, rfl, HZ.out.1, HZ.out.2.1, HZ.out.2.2⟩
end Bk
end Go.Proofs.YtohdlnefgieenaaGreat
namespace Go.Proofs.YtohdlnefgieenaaGreat
open Go.RowKit
namespace Bk
open Go.Law Go.Proofs.YtohdlnefgieenaaGreat.OmapB Door
theorem elemR : ∃ i, Law.Elem Tryz.prog 85 131 i (.agg #[.string .empty, .int .i64 0, .int .i64 0, .int .i64 0, .int .i64 0, .int .i64 0, .int .i64 0]) 7 64 := Law.Elem.of Tryz.underlying85 (by kernel_rfl) rfl (by decide)

set_option maxRecDepth 100000 in
set_option maxHeartbeats 4000000 in
theorem refSweep (now : Int) {w : World} {A : Option Addr} {c : Nat} {b : List (ByteArray × En)} (h : UsersAt w A b) (hR : Rises lt b) (hl : b.length ≤ 400) (hm : ∀ q ∈ b, q.2.1.length ≤ 900) :
  Calls Tryz.prog 29 #[.slice A b.length c, .int .u64 now] w fun e w' => ∃ A1 c1 A2 c2, e = .returned (.tuple #[.slice A1 (sweepB now b).length c1, .slice A2 (sweepC now b).length c2]) ∧ UsersAt w' A1 (sweepB now b) ∧ Lain 131 w' A2 (flatC (sweepC now b)) ∧ Below w.heap.size w w' := by
 have HU0 := Lib.hid h
 obtain ⟨xs, hx, hin, hxb⟩ := h
 have hxl : b.length = xs.length := by rw [← hxb, mapV_length]
 have HX := Lib.hid hx
 have HIN := Lib.hid hin
 have HXB := Lib.hid hxb
 have HR := Lib.hid hR
 have HM := Lib.hid hm
 have HXL := Lib.hid hxl
 have hl4 : xs.length ≤ 400 := by omega
 obtain ⟨i0, hE⟩ := elemR
 have HE := Lib.hid hE
 have HB := Lib.hid (Below.refl w.heap.size w)
 rw [hxl]
 clear hx hin hxb hR hm hE hxl
 go_enter Tryz.func29, Tryz.ntmps29
 go_wp2_with fail
 go_loopw [6, 7, 8] (fun av ov iv wr => ∃ (j : Nat) (A2 : Option Addr) (c2 : Nat), j ≤ xs.length ∧ iv = .int .i64 j ∧ ov = .slice A2 (foldB lt now b (b.take j)).1.length c2 ∧ UsersAt wr A2 (foldB lt now b (b.take j)).1 ∧ wr.ownsRow w.heap.size 131 7 av (foldB lt now b (b.take j)).2.length (flatC (foldB lt now b (b.take j)).2) ∧ Below w.heap.size w wr) (fun _ _ iv _ => xs.length - (intOf iv).toNat)
 case atStart => exact ⟨0, A, c, Nat.zero_le _, rfl, by rw [List.take_zero]; show _ = Value.slice A b.length c; rw [HXL.out], by rw [List.take_zero]; exact HU0.out, by rw [List.take_zero]; exact World.ownsRow_nil _ _ _ _, Below.refl _ _⟩
 case round =>
  obtain ⟨j, A2, c2, hj, rfl, rfl, hu, ho, hb⟩ := hrel
  obtain ⟨A4, c4, rfl, _⟩ := own_shape ho
  have HUW := Lib.hid hu
  have HO := Lib.hid ho
  have HBW := Lib.hid hb
  have sz := hb.size
  clear hu ho hb HU0
  by_cases hlt : j < xs.length
  ·have HNX : Hid (foldB lt now b (b.take (j + 1)) = (become lt xs[j].1 (live now xs[j].2.ss) now (foldB lt now b (b.take j)).1, (foldB lt now b (b.take j)).2 ++ tells xs[j].1 (live now xs[j].2.ss) now (foldB lt now b (b.take j)).1)) := by
    have e1 : b.take (j + 1) = b.take j ++ [(xs[j].1, xs[j].2.en)] := by
     rw [← HXB.out]
     unfold mapV
     rw [List.take_succ_eq_append_getElem (by simpa using hlt)]
     simp
    show _ = _
    rw [e1, foldB_snoc]
    rfl
   have HFR : Hid (Rises lt (foldB lt now b (b.take j)).1) := foldB_rises lt tri now _ HR.out
   have hfl : (foldB lt now b (b.take j)).1.length ≤ 800 := by
    have h1 := foldB_len lt now (b.take j) b
    have h2 := HXL.out
    simp at h1
    omega
   have hfc : (foldB lt now b (b.take j)).2.length ≤ 400 := by
    have h1 := foldB_told lt now (b.take j) b
    simp at h1
    omega
   have hvl : xs[j].2.ss.length ≤ 900 := HM.out (xs[j].1, xs[j].2.en) (by rw [← HXB.out]; exact List.mem_map.2 ⟨_, List.getElem_mem hlt, rfl⟩)
   have hvi := (HIN.out _ (List.getElem_mem hlt)).keeps (Keeps.of_below HBW.out)
   obtain ⟨gb, off, rfl, _, lb, y0, y1, _, _, _⟩ := HX.out.seq.us hlt
   have lr : gb < wr.heap.size := by omega
   generalize xs[j] = q at *
   obtain ⟨nm, vA, vn, vc, vs, vp, vl, vss⟩ := q
   simp only at y0 y1 HNX hvl hvi
   have hvn : vn = vss.length := hvi.1
   subst hvn
   have HVL : Hid (Lain 138 wr vA (flatS vss)) := hvi.2
   have q0 := (HBW.out.cell (p := ⟨gb, off + j * 5, none⟩) lb).trans y0
   have q1 := (HBW.out.cell (p := ⟨gb, off + j * 5 + 1, none⟩) lb).trans y1
   clear hvi
   generalize foldB lt now b (b.take j) = fb at *
   obtain ⟨fbb, fbc⟩ := fb
   simp only at HNX HFR hfl hfc HUW HO
   have hll : (live now vss).length ≤ 900 := Nat.le_trans (live_length now vss) hvl
   have HPU : Hid (∀ W, Kept wr W → Calls Tryz.prog 59 #[.slice vA vss.length vc, .int .u64 now] W fun e w' => ∃ A c, e = .returned (.slice A (live now vss).length c) ∧ Lain 138 w' A (flatS (live now vss)) ∧ Below W.heap.size W w') := fun W K => refPurge_ rfl (HVL.out.now K) hvl
   have HBC : Hid (∀ W A5 c5, Kept wr W → Lain 138 W A5 (flatS (live now vss)) → Calls Tryz.prog 58 #[.slice A2 fbb.length c2, .string nm, .slice A5 (live now vss).length c5, .int .u64 now] W fun e w' => ∃ A1 c1 A2 c2, e = .returned (.tuple #[.slice A1 (become lt nm (live now vss) now fbb).length c1, .slice A2 (tells nm (live now vss) now fbb).length c2]) ∧ UsersAt w' A1 (become lt nm (live now vss) now fbb) ∧ Lain 131 w' A2 (flatC (tells nm (live now vss) now fbb)) ∧ Below W.heap.size W w') := fun W A5 c5 K hL => refBecome nm (live now vss) now (HUW.out.now K) HFR.out hL hll (by omega)
   have hnc := tells_le nm (live now vss) now fbb
   generalize become lt nm (live now vss) now fbb = nb at *
   generalize tells nm (live now vss) now fbb = nc at *
   generalize live now vss = ls at *
   go_wp2_with fail
   refine wp_region_held_drew (S := fun w' => w'.cell? ⟨gb, off + j * 5, none⟩ = some (.string nm) ∧ w'.cell? ⟨gb, off + j * 5 + 1, none⟩ = some (.slice vA vss.length vc)) (by kernel_rfl) ⟨q0, q1⟩ (fun hS0 => ?_)
   refine Go.Law.tk 0 ⟨some 19, .move (.tmp 7), _, _, _, _⟩ (v := .slice A2 fbb.length c2) hS0 ?_ ?_
   ·intro w' hSw
    go_simp
   try simp only [Go.Law.pz]
   refine Go.Law.tk 1 ⟨some 20, .move (.tmp 0), _, _, _, _⟩ (v := .slice (some ⟨gb, off, none⟩) xs.length c) hS0 ?_ ?_
   ·intro w' hSw
    go_simp
   try simp only [Go.Law.pz]
   refine Go.Law.tk 2 ⟨some 21, .move (.tmp 8), _, _, _, _⟩ (v := .int .i64 (j : Int)) hS0 ?_ ?_
   ·intro w' hSw
    go_simp
   try simp only [Go.Law.pz]
   refine Go.Law.tk 3 ⟨some 22, .indexAddr 84 (.tmp 20) (.tmp 21), _, _, _, _⟩ (v := .pointer (some ⟨gb, off + j * 5, none⟩)) hS0 ?_ ?_
   ·intro w' hSw
    go_simp
   try simp only [Go.Law.pz]
   refine Go.Law.tk 4 ⟨some 23, .fieldAddr 107 (.tmp 22) 0, _, _, _, _⟩ (v := .pointer (some ⟨gb, off + j * 5, none⟩)) hS0 ?_ ?_
   ·intro w' hSw
    go_simp
   try simp only [Go.Law.pz]
   refine Go.Law.tk 5 ⟨some 24, .load 9 (.tmp 23), _, _, _, _⟩ (v := .string nm) hS0 ?_ ?_
   ·intro w' hSw
    go_simp
   try simp only [Go.Law.pz]
   refine Go.Law.tk 6 ⟨some 25, .move (.tmp 0), _, _, _, _⟩ (v := .slice (some ⟨gb, off, none⟩) xs.length c) hS0 ?_ ?_
   ·intro w' hSw
    go_simp
   try simp only [Go.Law.pz]
   refine Go.Law.tk 7 ⟨some 26, .move (.tmp 8), _, _, _, _⟩ (v := .int .i64 (j : Int)) hS0 ?_ ?_
   ·intro w' hSw
    go_simp
   try simp only [Go.Law.pz]
   refine Go.Law.tk 8 ⟨some 27, .indexAddr 84 (.tmp 25) (.tmp 26), _, _, _, _⟩ (v := .pointer (some ⟨gb, off + j * 5, none⟩)) hS0 ?_ ?_
   ·intro w' hSw
    go_simp
   try simp only [Go.Law.pz]
   refine Go.Law.tk 9 ⟨some 28, .fieldAddr 107 (.tmp 27) 1, _, _, _, _⟩ (v := .pointer (some ⟨gb, off + j * 5 + 1, none⟩)) hS0 ?_ ?_
   ·intro w' hSw
    go_simp
   try simp only [Go.Law.pz]
   refine Go.Law.tk 10 ⟨some 29, .load 105 (.tmp 28), _, _, _, _⟩ (v := .slice vA vss.length vc) hS0 ?_ ?_
   ·intro w' hSw
    go_simp
   try simp only [Go.Law.pz]
   refine Go.Law.tk 11 ⟨some 30, .move (.tmp 1), _, _, _, _⟩ (v := .int .u64 now) hS0 ?_ ?_
   ·intro w' hSw
    go_simp
   try simp only [Go.Law.pz]
   refine Go.Law.tk 13 ⟨some 32, .move (.tmp 1), _, _, _, _⟩ (v := .int .u64 now) hS0 ?_ ?_
   ·intro w' hSw
    go_simp
   try simp only [Go.Law.pz]
   refine wpAnyH_ready (rs := [12]) (by kernel_rfl) (by simp) ?_
   refine AllReadyH.cons (o := ⟨some 31, .call { callee := .value (.func 59), args := #[.tmp 29, .tmp 30], argTypes := #[105, 22] }, _, _, _, _⟩) rfl (fun K hK => ?_) AllReadyH.nil
   go_simp
   refine Calls.mono (HPU.out _ (Kept.drew wr)) ?_
   rintro e w5 ⟨A5, c5, rfl, l5, b1⟩
   have b2 : Below wr.heap.size wr w5 := Below.trans (Kept.drew wr) (Below.mono b1 (Nat.le_refl _))
   have lr5 : gb < w5.heap.size := Nat.lt_of_lt_of_le lr b2.size
   go_wp2_with fail
   refine hK.out _ _ (by obtain ⟨y1, y2⟩ := hS0; exact ⟨(b1.cell (p := ⟨gb, off + j * 5, none⟩) lr).trans y1, (b1.cell (p := ⟨gb, off + j * 5 + 1, none⟩) lr).trans y2⟩) (fun hS1 => ?_)
   clear hK K
   try simp only [Go.Law.pz]
   refine wpAnyH_ready (rs := [14]) (by kernel_rfl) (by simp) ?_
   refine AllReadyH.cons (o := ⟨some 33, .call { callee := .value (.func 58), args := #[.tmp 19, .tmp 24, .tmp 31, .tmp 32], argTypes := #[84, 9, 105, 22] }, _, _, _, _⟩) rfl (fun K hK => ?_) AllReadyH.nil
   go_simp
   refine Calls.mono (HBC.out _ _ _ b2 l5) ?_
   rintro e w6 ⟨A6, c6, A7, c7, rfl, u6, l6, b3⟩
   have b4 : Below wr.heap.size wr w6 := Below.trans b2 (Below.mono b3 b2.size)
   go_wp2_with fail
   refine hK.out _ _ (by obtain ⟨y1, y2⟩ := hS1; exact ⟨(b3.cell (p := ⟨gb, off + j * 5, none⟩) lr5).trans y1, (b3.cell (p := ⟨gb, off + j * 5 + 1, none⟩) lr5).trans y2⟩) (fun hS2 => ?_)
   clear hK K
   try simp only [Go.Law.pz]
   refine Go.Law.tk 15 ⟨some 18, .move (.tmp 33), _, _, _, _⟩ (v := .tuple #[.slice A6 nb.length c6, .slice A7 nc.length c7]) hS2 ?_ ?_
   ·intro w' hSw
    go_simp
   try simp only [Go.Law.pz]
   refine Go.Law.tk 16 ⟨some 34, .extract (.tmp 18) 0, _, _, _, _⟩ (v := .slice A6 nb.length c6) hS2 ?_ ?_
   ·intro w' hSw
    go_simp
   try simp only [Go.Law.pz]
   refine Go.Law.tk 17 ⟨some 35, .extract (.tmp 18) 1, _, _, _, _⟩ (v := .slice A7 nc.length c7) hS2 ?_ ?_
   ·intro w' hSw
    go_simp
   try simp only [Go.Law.pz]
   refine Go.Law.tk 18 ⟨some 9, .assign (.tmp 34), _, _, _, _⟩ (v := .slice A6 nb.length c6) hS2 ?_ ?_
   ·intro w' hSw
    go_simp
   try simp only [Go.Law.pz]
   refine Go.Law.tk 19 ⟨some 10, .assign (.tmp 35), _, _, _, _⟩ (v := .slice A7 nc.length c7) hS2 ?_ ?_
   ·intro w' hSw
    go_simp
   try simp only [Go.Law.pz]
   refine wpAnyH_done (by kernel_rfl) ?_ _
   have HU6 := Lib.hid u6
   have HL6 := Lib.hid l6
   have HO6 := Lib.hid (own_below HO.out b4)
   have HB6 := Lib.hid (HBW.out.trans (b4.mono HBW.out.size))
   have sz6 := HB6.out.size
   clear u6 l6 l5 b1 b2 b3 b4 hS0 hS1 hS2 lr5 HPU HBC HVL HUW HO HBW q0 q1 y0 y1
   go_wp2_with (at_builtin; refine Law.wpList_append_seq _ w.heap.size 85 rfl _ _ rfl HE.out _ _ _ rfl HO6.out 0 _ A7 nc.length c7 (flatC nc) rfl (flatC_length nc) HL6.out.seq (flatC_one nc) (by unfold maxLen; omega) (by omega) (by omega) ?_; intro v8 w8 hown hgrow; obtain ⟨A8, c8, rfl, _⟩ := own_shape hown; have HO8 := Lib.hid hown; have HU8 := Lib.hid (HU6.out.keeps (Keeps.grown HO6.out hgrow (by decide)) (Keeps.grown HO6.out hgrow (by decide))); have HB8 := Lib.hid (HB6.out.grown hgrow (by omega) (fun g hg => (HO6.out.lt g hg).1)); clear hown hgrow)
   go_roundw
   case rel =>
    refine ⟨j + 1, A6, c6, by omega, by go_num, by rw [HNX.out], by rw [HNX.out]; exact HU8.out, ?_, HB8.out⟩
    rw [HNX.out]
    simpa [flatC_app] using HO8.out
   case measure => simp [intOf]; omega
  ·have e1 : b.take j = b := List.take_of_length_le (by have := HXL.out; omega)
   rw [e1, foldB_all lt tri now HR.out] at HUW HO ⊢
   simp only at HUW HO
   go_wp2_with fail
   exact bodyPost_ret (v := .tuple #[.slice A2 (sweepB now b).length c2, .slice A4 (sweepC now b).length c4]) (by simp [results, Tryz.results29, go_sem]) rfl ⟨A2, c2, A4, c4, rfl, HUW.out, Lain.own HO.out, HBW.out⟩
end Bk
end Go.Proofs.YtohdlnefgieenaaGreat
