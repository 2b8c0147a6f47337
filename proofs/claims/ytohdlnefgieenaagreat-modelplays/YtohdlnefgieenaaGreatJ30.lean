/-
  What the reference's (layer 9) Merge comes to.
-/
import Derived.Test.YtohdlnefgieenaaGreatJ25
import Derived.Test.YtohdlnefgieenaaGreatJ21
import Derived.Test.YtohdlnefgieenaaGreatJ3
import Derived.Test.YtohdlnefgieenaaGreatJ26
import Derived.Test.YtohdlnefgieenaaGreatJ28
import Derived.Test.YtohdlnefgieenaaGreatJ29
namespace Go.Law
theorem Lain.at {t : TypeId} {w : World} {A : Option Addr} {l : List (RowV Ev)} {i : Nat} (h : Lain t w A (l.flatMap cellsR)) (hi : i < l.length) : ∃ g off cs, A = some ⟨g, off, none⟩ ∧ Is w g t cs ∧ cs[off + i]? = some (.slice l[i].A l[i].xs.length l[i].c) := by
 have e : (l.flatMap cellsR)[i]? = some (.slice l[i].A l[i].xs.length l[i].c) := by
  have := rows_at cellsR (sz := 1) (fun _ => rfl) (List.getElem?_eq_getElem hi) (j := 0) (by decide)
  simpa [cellsR] using this
 obtain ⟨g, off, cs, hA, hi', hc⟩ := h (by intro h0; rw [h0] at e; simp at e)
 exact ⟨g, off, cs, hA, hi', hc i _ e⟩
theorem rows_set (l : List (RowV Ev)) (i : Nat) (q : RowV Ev) : (l.set i q).flatMap cellsR = (l.flatMap cellsR).set i (.slice q.A q.xs.length q.c) := by
 induction l generalizing i with
 | nil => simp
 | cons p r ih =>
   cases i with
   | zero => simp [cellsR]
   | succ i => simp [cellsR, ih]
theorem Lain.set {t : TypeId} {w : World} {g off : Nat} {l : List (RowV Ev)} {i : Nat} (h : Lain t w (some ⟨g, off, none⟩) (l.flatMap cellsR)) (q : RowV Ev) (hi : i < l.length) : Lain t (w.setCell ⟨g, off + i, none⟩ (.slice q.A q.xs.length q.c)) (some ⟨g, off, none⟩) ((l.set i q).flatMap cellsR) := fun _ => by
 obtain ⟨g', off', cs, hA, hi', hc⟩ := h (by intro h0; have := rows_length cellsR (sz := 1) (fun _ => rfl) l; rw [h0] at this; simp at this; omega)
 obtain ⟨rfl, rfl, _⟩ := by simpa using hA
 refine ⟨g, off, _, rfl, hi'.set _ _ rfl, fun j u hu => ?_⟩
 rw [rows_set, List.getElem?_set] at hu
 rw [Array.getElem?_setIfInBounds]
 by_cases e : i = j
 ·subst e
  rw [if_pos rfl] at hu ⊢
  have hlt : i < (l.flatMap cellsR).length := by rw [rows_length cellsR (sz := 1) (fun _ => rfl)]; omega
  rw [if_pos hlt] at hu
  have hcs : off + i < cs.size := (Array.getElem?_eq_some_iff.1 (hc i _ (List.getElem?_eq_getElem hlt))).1
  rw [if_pos hcs]
  exact hu
 ·rw [if_neg e] at hu
  rw [if_neg (by omega)]
  exact hc j u hu
theorem own_far {w : World} {base : Nat} {e t : TypeId} {size n : Nat} {v u : Value} {xs : List Value} {g i : Nat} {cs : Array Value} (h : w.ownsRow base e size v n xs) (hi : Is w g t cs) (ht : e ≠ t) : (w.setCell ⟨g, i, none⟩ u).ownsRow base e size v n xs :=
 (Law.Touch.store (T := fun k => k = g) w ⟨g, i, none⟩ u rfl).own h (fun _ hg e' => own_ne h hi ht (e' ▸ hg))
theorem all_pick {L L' : List (List Ev)} {e : Ev} (h : pick L = some (e, L')) : all L = e :: all L' := by
 have t := pick_total h
 unfold all
 rw [t, kway, h]
theorem all_none {L : List (List Ev)} (h : pick L = none) : all L = [] := kway_none h _
theorem mem_total {L : List (List Ev)} {r : List Ev} (h : r ∈ L) : r.length ≤ total L := by
 induction L with
 | nil => cases h
 | cons p q ih =>
   rw [total_cons]
   rcases List.mem_cons.1 h with rfl | h
   ·omega
   ·have := ih h; omega
def Best (L : List (List Ev)) (i : Nat) : Option Nat → Prop
 | none => pick (L.drop i) = none
 | some j => i ≤ j ∧ ∃ x xs, L[j]? = some (x :: xs) ∧ pick (L.drop i) = some (x, (L.drop i).set (j - i) xs)
theorem best_end (L : List (List Ev)) : Best L L.length none := by
 show pick (L.drop L.length) = none
 rw [List.drop_length]; rfl
section
variable {L : List (List Ev)} {i : Nat}
theorem drop_cons (h : i < L.length) : L.drop i = L[i] :: L.drop (i + 1) := List.drop_eq_getElem_cons h
theorem best_empty {B : Option Nat} (hb : Best L (i + 1) B) (h : i < L.length) (he : L[i] = []) : Best L i B := by
 cases B with
 | none =>
   show pick _ = none
   have hb' : pick (L.drop (i + 1)) = none := hb
   rw [drop_cons h, he]
   simp [pick, hb']
 | some j =>
   obtain ⟨h1, x, xs, h2, h3⟩ := hb
   refine ⟨by omega, x, xs, h2, ?_⟩
   rw [drop_cons h, he, show j - i = (j - (i + 1)) + 1 by omega]
   simp [pick, h3]
theorem bestG_first {x : Ev} {xs : List Ev} (hb : Best L (i + 1) none) (h : i < L.length) (he : L[i] = x :: xs) : Best L i (some i) := by
 have hb' : pick (L.drop (i + 1)) = none := hb
 refine ⟨Nat.le_refl _, x, xs, by rw [List.getElem?_eq_getElem h, he], ?_⟩
 rw [drop_cons h, he, Nat.sub_self]
 simp [pick, hb']
theorem best_less {x y : Ev} {xs ys : List Ev} {j : Nat} (hb : Best L (i + 1) (some j)) (h : i < L.length) (he : L[i] = x :: xs) (hj : L[j]? = some (y :: ys)) (hl : x.sq ≤ y.sq) : Best L i (some i) := by
 obtain ⟨h1, x', xs', h2, h3⟩ := hb
 rw [hj] at h2
 obtain ⟨rfl, rfl⟩ := by simpa using h2
 refine ⟨Nat.le_refl _, x, xs, by rw [List.getElem?_eq_getElem h, he], ?_⟩
 rw [drop_cons h, he, Nat.sub_self]
 simp [pick, h3, hl]
theorem best_more {x y : Ev} {xs ys : List Ev} {j : Nat} (hb : Best L (i + 1) (some j)) (h : i < L.length) (he : L[i] = x :: xs) (hj : L[j]? = some (y :: ys)) (hl : ¬ x.sq ≤ y.sq) : Best L i (some j) := by
 obtain ⟨h1, x', xs', h2, h3⟩ := hb
 rw [hj] at h2
 obtain ⟨rfl, rfl⟩ := by simpa using h2
 refine ⟨by omega, _, _, hj, ?_⟩
 rw [drop_cons h, he, show j - i = (j - (i + 1)) + 1 by omega]
 simp [pick, h3, hl]
end
end Go.Law
namespace Go.Proofs.YtohdlnefgieenaaGreat
open Go.RowKit Go.Shelf
attribute [local go_sem] Oper.semAt_some
namespace Feed
open Go.Law
def encB : Option Nat → Int
 | none => -1
 | some j => (j : Int)
theorem elemR : ∃ i, Law.Elem Tryz.prog 89 41 i (.slice none 0 0) 1 24 := Law.Elem.of Tryz.underlying89 (by kernel_rfl) rfl (by decide)
theorem rows_one (l : List (RowV Ev)) : ∀ u ∈ l.flatMap cellsR, u.oneCell' = true := by
 intro u hu
 obtain ⟨q, _, hq⟩ := List.mem_flatMap.1 hu
 simp [cellsR] at hq
 subst hq
 rfl
theorem own_emptyR (w : World) {base : Nat} (e : TypeId) (hb : base ≤ w.heap.size) : (w.alloc (.cells #[] e)).ownsRow base e 1 (.slice (some ⟨w.heap.size, 0, none⟩) 0 0) 0 [] :=
 ⟨rfl, .inr ⟨w.heap.size, 0, #[], rfl, hb, heap_alloc_new w _, Nat.le_refl _, Nat.zero_le _, rfl, rfl⟩⟩
set_option maxRecDepth 100000 in
set_option maxHeartbeats 4000000 in
theorem refMerge (l : List (RowV Ev)) (A : Option Addr) (c : Nat) (w : World) (hR : Rows w A l) (ht : total (evs l) ≤ 500) (hl : l.length ≤ 1000) :
  Calls Tryz.prog 33 #[.slice A l.length c] w (Lists w (all (evs l))) := by
 obtain ⟨i1, hE1⟩ := elemR
 obtain ⟨i0, hE0⟩ := RingE.elem
 have HE := Lib.hid hE0
 have HE1 := Lib.hid hE1
 have HR := Lib.hid hR
 have HO := Lib.hid (own_emptyR w 41 (base := w.heap.size) (Nat.le_refl _))
 have HS1 := Lib.hid (hR.seq.alloc (Nat.le_refl _) (.cells #[] 41))
 clear hE0 hE1 hR
 go_enter Tryz.func33, Tryz.ntmps33
 go_wp2_with (at_builtin; refine Law.wpList_append_seq _ w.heap.size 89 rfl _ _ rfl HE1.out _ 0 [] rfl HO.out 0 w.heap.size A l.length c (l.flatMap cellsR) rfl (by rw [rows_len]; omega) HS1.out (rows_one _) (by unfold maxLen; omega) (by omega) (by simp) ?_; intro v1 w1 hown hgrow)
 have B1 : Below w.heap.size w w1 := ((Below.refl _ w).alloc (Nat.le_refl _) (.cells #[] 41)).grown hgrow (by simp) (fun k hk => by have h9 : w.heap.size = k := Option.some.inj hk; omega)
 have OW : w1.ownsRow w.heap.size 41 1 v1 l.length (l.flatMap cellsR) := by simpa using hown
 obtain ⟨D, cp, rfl, hcp⟩ := own_shape OW
 have HL1 := Lib.hid (Lain.own OW)
 have HG : Hid (∀ g, (Value.slice D l.length cp).ownBlock = some g → w.heap.size ≤ g) := fun g hg => (OW.lt g hg).1
 have HB1 := Lib.hid B1
 obtain ⟨n, hn⟩ : ∃ n, l.length = n := ⟨_, rfl⟩
 have HN := Lib.hid hn
 clear hown hgrow B1 OW HO HS1
 rw [hn] at hcp hl ⊢
 go_loopw [4] (fun vo wr => ∃ (R : List (RowV Ev)) (dn : List Ev), R.length = n ∧ Lain 41 wr D (R.flatMap cellsR) ∧ (∀ q ∈ R, Seq w 0 w.heap.size q.A (flatE q.xs) ∧ q.xs.length ≤ q.c) ∧ wr.ownsRow w.heap.size 63 8 vo dn.length (flatE dn) ∧ Below w.heap.size w wr ∧ all (evs l) = dn ++ all (evs R) ∧ dn.length + total (evs R) ≤ 500) (fun vo _ => 500 - slen vo)
 case atStart => exact ⟨l, [], HN.out, HL1.out, fun q hq => ⟨HR.out.row q hq, HR.out.cap q hq⟩, World.ownsRow_nil _ _ _ _, HB1.out, rfl, by simpa using ht⟩
 case round =>
  clear HL1 HB1 HR
  obtain ⟨R, dn, hRn, hLn, hRow, hOut, hBel, hAll, hTot⟩ := hrel
  have HLn := Lib.hid hLn
  have HRow := Lib.hid hRow
  have HOut := Lib.hid hOut
  have HBel := Lib.hid hBel
  have HAll := Lib.hid hAll
  have HRn := Lib.hid hRn
  have HTot := Lib.hid hTot
  have hdn : dn.length ≤ 500 := by omega
  obtain ⟨Dn, cdn, rfl, hcdn⟩ := own_shape hOut
  clear hLn hRow hOut hBel hAll hRn hTot
  have HEL : Hid ((evs R).length = n) := by show _ = _; rw [← HRn.out]; exact List.length_map ..
  go_wp2_with fail
  go_loopw [5, 6] (fun vb vi wx => ∃ (k : Nat) (B : Option Nat), k ≤ n ∧ vb = .int .i64 (encB B) ∧ vi = .int .i64 ((k : Int) - 1) ∧ Best (evs R) k B ∧ Lain 41 wx D (R.flatMap cellsR) ∧ wx.ownsRow w.heap.size 63 8 (.slice Dn dn.length cdn) dn.length (flatE dn) ∧ Below w.heap.size w wx) (fun _ vi _ => (intOf vi + 1).toNat)
  case atStart => exact ⟨n, none, Nat.le_refl _, rfl, rfl, by have := best_end (evs R); rw [HEL.out] at this; exact this, HLn.out, HOut.out, HBel.out⟩
  case round =>
   clear HLn HOut HBel
   obtain ⟨k, B, hk, rfl, rfl, hBest, hLn, hOut, hBel⟩ := hrel
   have HBest := Lib.hid hBest
   have HLn := Lib.hid hLn
   have HOut := Lib.hid hOut
   have HBel := Lib.hid hBel
   have szx := hBel.size
   clear hBest hLn hOut hBel
   cases k with
   | succ i =>
     rw [show (((i + 1 : Nat) : Int) - 1) = (i : Int) by omega]
     have hi : i < R.length := by have := HRn.out; omega
     have hiE : i < (evs R).length := by have := HEL.out; omega
     have hin : i < n := hk
     obtain ⟨g, off, cs, rfl, hIs, hcs⟩ := HLn.out.at hi
     have c0 : World.cell? _ ⟨g, off + i, none⟩ = some (.slice R[i].A R[i].xs.length R[i].c) := (hIs.cell _).trans hcs
     have lg := hIs.lt
     have HEI : Hid ((evs R)[i] = R[i].xs) := by show _ = _; simp [evs]
     have HRI := Lib.hid (HRow.out _ (List.getElem_mem hi))
     have d1 : decide ((0 : Int) ≤ (i : Int)) = true := by simp
     generalize hq : R[i] = q at *
     clear hIs hcs hq
     obtain ⟨qa, qc, qx⟩ := q
     simp only at c0 HEI HRI
     have hii : (i : Int) < (n : Int) := by omega
     cases qx with
     | nil =>
       have HNB := Lib.hid (best_empty HBest.out hiE HEI.out)
       simp only [List.length_nil] at c0
       go_wp2_with fail
       go_quiet (fail)
       go_wp2_with fail
       have hbq : Below (wr).heap.size wr (wr.drewN nq) := Law.below_drewN (Below.refl _ wr) nq
       have HL2 := Lib.hid (HLn.out.keeps (Keeps.drewN _ wr nq))
       have HO2 := Lib.hid (own_below HOut.out hbq)
       have HB2 := Lib.hid (Law.below_drewN HBel.out nq)
       clear hbq
       go_roundw
       case rel => exact ⟨i, B, by omega, rfl, by first | rfl | go_num, HNB.out, HL2.out, HO2.out, HB2.out⟩
       case measure => simp [intOf] <;> omega
     | cons x xs =>
       obtain ⟨ga, oa, rfl, _, hga, p0, p1, p2, p3, p4, p5, p6, p7⟩ := (HRI.out.1.below HBel.out).ev (i := 0) (by simp)
       simp only [List.getElem_cons_zero, Nat.zero_mul, Nat.add_zero] at p7
       clear p0 p1 p2 p3 p4 p5 p6
       simp only [List.length_cons] at c0
       have hx0 : (x :: xs).length ≤ total (evs R) := by rw [← HEI.out]; exact mem_total (List.getElem_mem hiE)
       have hx1 : xs.length ≤ 500 := by have h1 := HTot.out; simp at hx0; omega
       clear hx0
       cases B with
       | none =>
         have HNB := Lib.hid (bestG_first HBest.out hiE HEI.out)
         simp only [encB]
         go_wp2_with fail
         go_quiet (fail)
         go_wp2_with fail
         have hbq : Below (wr).heap.size wr (wr.drewN nq) := Law.below_drewN (Below.refl _ wr) nq
         have HL2 := Lib.hid (HLn.out.keeps (Keeps.drewN _ wr nq))
         have HO2 := Lib.hid (own_below HOut.out hbq)
         have HB2 := Lib.hid (Law.below_drewN HBel.out nq)
         clear hbq
         go_roundw
         case rel => exact ⟨i, some i, by omega, rfl, by first | rfl | go_num, HNB.out, HL2.out, HO2.out, HB2.out⟩
         case measure => simp [intOf] <;> omega
       | some j =>
         obtain ⟨hj1, y, ys, hj2, _⟩ := HBest.out
         have hjE : j < (evs R).length := (List.getElem?_eq_some_iff.1 hj2).1
         have hj : j < R.length := by have h1 := HEL.out; have h2 := HRn.out; omega
         have hjn : j < n := by have := HRn.out; omega
         have hji : (j : Int) < (n : Int) := by omega
         obtain ⟨g', off', cs', hg', hIs, hcs⟩ := HLn.out.at hj
         obtain ⟨rfl, rfl, _⟩ := by simpa using hg'
         have c1 : World.cell? _ ⟨g, off + j, none⟩ = some (.slice R[j].A R[j].xs.length R[j].c) := (hIs.cell _).trans hcs
         have h9 : (evs R)[j]? = some R[j].xs := by simp [evs, hj]
         have HEJ : Hid (R[j].xs = y :: ys) := Option.some.inj (h9.symm.trans hj2)
         clear h9
         have HRJ := Lib.hid (HRow.out _ (List.getElem_mem hj))
         generalize hq : R[j] = q at *
         clear hIs hcs hq hg'
         obtain ⟨ra, rc, rx⟩ := q
         simp only at c1 HEJ HRJ
         obtain rfl : rx = y :: ys := HEJ.out
         obtain ⟨gb, ob, rfl, _, hgb, q0, q1, q2, q3, q4, q5, q6, q7⟩ := (HRJ.out.1.below HBel.out).ev (i := 0) (by simp)
         simp only [List.getElem_cons_zero, Nat.zero_mul, Nat.add_zero] at q7
         clear q0 q1 q2 q3 q4 q5 q6
         simp only [List.length_cons] at c1
         have d2 : decide ((j : Int) < 0) = false := by simp
         simp only [encB]
         by_cases hle : x.sq ≤ y.sq
         ·have HNB := Lib.hid (best_less HBest.out hiE HEI.out hj2 hle)
          have d3 : decide (x.sq ≤ y.sq) = true := by simpa using hle
          clear hj2
          go_wp2_with fail
          go_quiet (fail)
          go_wp2_with fail
          have hbq : Below (wr).heap.size wr (wr.drewN nq) := Law.below_drewN (Below.refl _ wr) nq
          have HL2 := Lib.hid (HLn.out.keeps (Keeps.drewN _ wr nq))
          have HO2 := Lib.hid (own_below HOut.out hbq)
          have HB2 := Lib.hid (Law.below_drewN HBel.out nq)
          clear hbq
          go_roundw
          case rel => exact ⟨i, some i, by omega, rfl, by first | rfl | go_num, HNB.out, HL2.out, HO2.out, HB2.out⟩
          case measure => simp [intOf] <;> omega
         ·have HNB := Lib.hid (best_more HBest.out hiE HEI.out hj2 hle)
          have d3 : decide (x.sq ≤ y.sq) = false := by simpa using hle
          clear hj2
          go_wp2_with fail
          go_quiet (fail)
          go_wp2_with fail
          have hbq : Below (wr).heap.size wr (wr.drewN nq) := Law.below_drewN (Below.refl _ wr) nq
          have HL2 := Lib.hid (HLn.out.keeps (Keeps.drewN _ wr nq))
          have HO2 := Lib.hid (own_below HOut.out hbq)
          have HB2 := Lib.hid (Law.below_drewN HBel.out nq)
          clear hbq
          go_roundw
          case rel => exact ⟨i, some j, by omega, rfl, by first | rfl | go_num, HNB.out, HL2.out, HO2.out, HB2.out⟩
          case measure => simp [intOf] <;> omega
   | zero =>
     have d1 : decide ((0 : Int) ≤ ((0 : Nat) : Int) - 1) = false := by decide
     cases B with
     | none =>
       have HD : Hid (all (evs l) = dn) := by show _ = _; rw [HAll.out, all_none (show pick (evs R) = none from HBest.out)]; simp
       simp only [encB]
       go_wp2_with fail
       go_ret
       exact ⟨Dn, cdn, by rw [HD.out]; rfl, by rw [HD.out]; exact hcdn, by rw [HD.out]; exact Seq.own HOut.out, HBel.out⟩
     | some j =>
       obtain ⟨_, y, ys, hj2, hpk⟩ := HBest.out
       rw [List.drop_zero, Nat.sub_zero] at hpk
       have hjE : j < (evs R).length := (List.getElem?_eq_some_iff.1 hj2).1
       have hj : j < R.length := by have h1 := HEL.out; have h2 := HRn.out; omega
       have hjn : j < n := by have := HRn.out; omega
       have hji : (j : Int) < (n : Int) := by omega
       obtain ⟨g, off, cs, rfl, hIs, hcs⟩ := HLn.out.at hj
       have c1 : World.cell? _ ⟨g, off + j, none⟩ = some (.slice R[j].A R[j].xs.length R[j].c) := (hIs.cell _).trans hcs
       have f1 := hIs.frozen (off + j)
       have lg := hIs.lt
       have HIS := Lib.hid hIs
       have h9 : (evs R)[j]? = some R[j].xs := by simp [evs, hj]
       have HEJ : Hid (R[j].xs = y :: ys) := Option.some.inj (h9.symm.trans hj2)
       have HRJ := Lib.hid (HRow.out _ (List.getElem_mem hj))
       have HPK := Lib.hid hpk
       have HEQ : Hid ((evs R)[j] = y :: ys) := Option.some.inj ((List.getElem?_eq_getElem hjE).symm.trans hj2)
       have HCS0 := Lib.hid hcs
       clear h9 hj2 hpk hIs hcs
       obtain ⟨q, hq⟩ : ∃ q, R[j] = q := ⟨_, rfl⟩
       rw [hq] at c1 HEJ HRJ HCS0
       clear hq
       obtain ⟨ra, rc, rx⟩ := q
       simp only at c1 HEJ HRJ HCS0
       obtain rfl : rx = y :: ys := HEJ.out
       obtain ⟨gb, ob, rfl, _, hgb, q0, q1, q2, q3, q4, q5, q6, q7⟩ := (HRJ.out.1.below HBel.out).ev (i := 0) (by simp)
       have HCS : Hid (cs[off + j]? = some (.slice (some ⟨gb, ob, none⟩) (ys.length + 1) rc)) := HCS0.out
       simp only [List.getElem_cons_zero, Nat.zero_mul, Nat.add_zero] at q0 q1 q2 q3 q4 q5 q6 q7
       have lgb := Nat.lt_of_lt_of_le hgb szx
       simp only [List.length_cons] at c1
       have d2 : decide ((j : Int) < 0) = false := by simp
       simp only [encB]
       have HTL : Hid (Seq w 0 w.heap.size (if rc = 1 then some ⟨gb, ob, none⟩ else some ⟨gb, ob + 8, none⟩) (flatE ys)) := tail_if HRJ.out.1 (by simpa using HRJ.out.2)
       have HES : ∀ a k, Hid (evs (R.set j ⟨a, k, ys⟩) = (evs R).set j ys) := fun a k => by show _ = _; unfold evs; rw [List.map_set]
       have h1y : (1 : Int) ≤ (ys.length : Int) + 1 := by omega
       have hy1 : ys.length ≤ 500 := by have h1 := HTot.out; have h2 := pick_total HPK.out; have h3 := mem_total (L := evs R) (r := y :: ys) (by have h4 := List.getElem_mem hjE; rwa [show (evs R)[j] = y :: ys from HEQ.out] at h4); simp at h3; omega
       by_cases hc1 : rc = 1
       ·have HES := HES (some ⟨gb, ob, none⟩) 0
        rw [if_pos hc1] at HTL
        go_wp2_with (at_builtin; refine wpList_append_own _ rfl _ _ 41 rfl w.heap.size 63 i0 (.agg #[.string ⟨#[]⟩, .int .i64 0, .int .i64 0, .int .i64 0, .int .i64 0, .int .i64 0, .int .i64 0, .int .u64 0]) 8 72 HE.out.ut HE.out.info HE.out.zero HE.out.sz HE.out.by_ HE.out.cells HE.out.pos _ _ _ rfl (HOut.out.alloc _) ⟨wr.heap.size, 0, none⟩ 1 1 (cellsE y) rfl rfl (new_E wr y _ rfl) (one_E y) (by unfold maxLen; omega) (by omega) (by simp; omega) ?_; intro v' w2 hown' hgrow _; obtain ⟨g', cap', rfl⟩ := ownsRow_succ hown'; have K2 : Keeps 41 wr w2 := (Keeps.alloc _).trans (Keeps.grown (HOut.out.alloc _) hgrow (by decide)); have HL2 := Lib.hid (HLn.out.keeps K2); have HO2 : Hid (w2.ownsRow w.heap.size 63 8 (.slice (some ⟨g', 0, none⟩) (dn.length + 1) cap') (dn.length + 1) (flatE dn ++ cellsE y)) := hown'; have HB2 := Lib.hid ((HBel.out.alloc szx _).grown hgrow (by simp; omega) (fun k hk => (HOut.out.lt k hk).1)); have I2 := K2.is HIS.out; have HI2 := Lib.hid I2; have c2 : w2.cell? ⟨g, off + j, none⟩ = some (.slice (some ⟨gb, ob, none⟩) (ys.length + 1) rc) := (I2.cell _).trans HCS.out; have f2 := I2.frozen (off + j); have lg2 := I2.lt; clear hown' hgrow K2 I2 c1 f1 lg)
        go_roundw
        case rel =>
         refine ⟨R.set j ⟨some ⟨gb, ob, none⟩, 0, ys⟩, dn ++ [y], by rw [List.length_set]; exact HRn.out, HL2.out.set ⟨some ⟨gb, ob, none⟩, 0, ys⟩ hj, ?_, ?_, HB2.out.setCell (HG.out g rfl) _, ?_, ?_⟩
         ·intro q hq
          rcases List.mem_or_eq_of_mem_set hq with h | h
          ·exact HRow.out q h
          ·subst h; exact ⟨HTL.out, by have := HRJ.out.2; simp only [List.length_cons] at this; simp only; omega⟩
         ·rw [flatE_snoc, List.length_append]; exact own_far HO2.out HI2.out (by decide)
         ·rw [HAll.out, all_pick HPK.out, HES.out]; simp
         ·have h1 := HTot.out; have h2 := pick_total HPK.out; rw [HES.out]; simp; omega
        case measure => simp [slen]; have h1 := HTot.out; have h2 := pick_total HPK.out; omega
       ·have HES := HES (some ⟨gb, ob + 8, none⟩) (rc - 1)
        rw [if_neg hc1] at HTL
        go_wp2_with (at_builtin; refine wpList_append_own _ rfl _ _ 41 rfl w.heap.size 63 i0 (.agg #[.string ⟨#[]⟩, .int .i64 0, .int .i64 0, .int .i64 0, .int .i64 0, .int .i64 0, .int .i64 0, .int .u64 0]) 8 72 HE.out.ut HE.out.info HE.out.zero HE.out.sz HE.out.by_ HE.out.cells HE.out.pos _ _ _ rfl (HOut.out.alloc _) ⟨wr.heap.size, 0, none⟩ 1 1 (cellsE y) rfl rfl (new_E wr y _ rfl) (one_E y) (by unfold maxLen; omega) (by omega) (by simp; omega) ?_; intro v' w2 hown' hgrow _; obtain ⟨g', cap', rfl⟩ := ownsRow_succ hown'; have K2 : Keeps 41 wr w2 := (Keeps.alloc _).trans (Keeps.grown (HOut.out.alloc _) hgrow (by decide)); have HL2 := Lib.hid (HLn.out.keeps K2); have HO2 : Hid (w2.ownsRow w.heap.size 63 8 (.slice (some ⟨g', 0, none⟩) (dn.length + 1) cap') (dn.length + 1) (flatE dn ++ cellsE y)) := hown'; have HB2 := Lib.hid ((HBel.out.alloc szx _).grown hgrow (by simp; omega) (fun k hk => (HOut.out.lt k hk).1)); have I2 := K2.is HIS.out; have HI2 := Lib.hid I2; have c2 : w2.cell? ⟨g, off + j, none⟩ = some (.slice (some ⟨gb, ob, none⟩) (ys.length + 1) rc) := (I2.cell _).trans HCS.out; have f2 := I2.frozen (off + j); have lg2 := I2.lt; clear hown' hgrow K2 I2 c1 f1 lg)
        go_roundw
        case rel =>
         refine ⟨R.set j ⟨some ⟨gb, ob + 8, none⟩, rc - 1, ys⟩, dn ++ [y], by rw [List.length_set]; exact HRn.out, HL2.out.set ⟨some ⟨gb, ob + 8, none⟩, rc - 1, ys⟩ hj, ?_, ?_, HB2.out.setCell (HG.out g rfl) _, ?_, ?_⟩
         ·intro q hq
          rcases List.mem_or_eq_of_mem_set hq with h | h
          ·exact HRow.out q h
          ·subst h; exact ⟨HTL.out, by have := HRJ.out.2; simp only [List.length_cons] at this; simp only; omega⟩
         ·rw [flatE_snoc, List.length_append]; exact own_far HO2.out HI2.out (by decide)
         ·rw [HAll.out, all_pick HPK.out, HES.out]; simp
         ·have h1 := HTot.out; have h2 := pick_total HPK.out; rw [HES.out]; simp; omega
        case measure => simp [slen]; have h1 := HTot.out; have h2 := pick_total HPK.out; omega
end Feed
end Go.Proofs.YtohdlnefgieenaaGreat
namespace Go.Proofs.YtohdlnefgieenaaGreat
open Go.RowKit Go.Shelf
attribute [local go_sem] Oper.semAt_some
namespace Mod
open Go.Law Feed Bk
abbrev Mo.rcells (a : Mo) (x : Cf) (b f cb cf : Nat) : Array Value := #[.int .i64 a.n, .int .i64 a.most, .int .i64 a.room, .int .i64 a.lim, .int .i64 x.re, .int .u64 x.ep, .int .u64 x.sta, .int .u64 a.now, .int .u64 a.seq, .bool a.closed, .slice (some ⟨b, 0, none⟩) a.n cb, .slice (some ⟨f, 0, none⟩) a.n cf]
theorem Still.touch1 {w w' : World} {g : Nat} {t' : TypeId} {cs : Array Value} (ht : Law.Touch w w' (fun k => k = g)) (hi : Is w g t' cs) (h1 : 168 ≠ t') (h2 : 138 ≠ t') (h3 : 200 ≠ t') (h4 : UT ≠ some t' := by decide) : Still w w' :=
 ⟨⟨Keeps.touch1 ht hi h1, Keeps.touch1 ht hi h2⟩, Keeps.touch1 ht hi h3, fun _ h => Keeps.touch1 ht hi (fun e => h4 (e ▸ h))⟩
theorem Still.users {w w' : World} (h : Still w w') {A : Option Addr} {b : List (ByteArray × En)} (hu : UsersAt w A b) : UsersAt w' A b := hu.keeps (h.user _ rfl) h.calm.ses
theorem _root_.Go.Proofs.YtohdlnefgieenaaGreat.Feed.RefAt.box {w : World} {R : Nat → Prop} {r : Nat} {room : Int} {ps : List Pa} {qs : Nat → List Ev} {ls : Nat → Bool} (h : RefAt w R r room ps qs ls) : ∃ cr, Is w r 81 cr := by obtain ⟨_, _, h⟩ := h; exact ⟨_, h.box⟩
theorem _root_.Go.Proofs.YtohdlnefgieenaaGreat.Feed.RefAt.ok {w : World} {R : Nat → Prop} {r : Nat} {room : Int} {ps : List Pa} {qs : Nat → List Ev} {ls : Nat → Bool} (h : RefAt w R r room ps qs ls) : ∀ n, R n → n < w.heap.size := by obtain ⟨_, _, h⟩ := h; exact h.ok
structure RCore (w : World) (N t b f : Nat) (ab af : Array Value) (r : Nat → Nat) (Rk : Nat → Nat → Prop) (ps : Nat → List Pa) (n room : Nat) (bk : Nat → List (ByteArray × En)) (fd : Nat → St) : Prop where
 brow : Is w b 84 ab
 frow : Is w f 76 af
 bat : ∀ k, k < n → ∃ A c, ab[k]? = some (.slice A (bk k).length c) ∧ UsersAt w A (bk k)
 fat : ∀ k, k < n → af[k]? = some (.pointer (some ⟨r k, 0, none⟩))
 ref : ∀ k, k < n → RefAt w (Rk k) (r k) room (ps k) (fd k).que (fd k).los
 inv : ∀ k, k < n → PI N (fd k) (ps k)
 rne : ∀ i j, i < n → j < n → i ≠ j → r i ≠ r j
 roff : ∀ i j, i < n → j < n → ¬ Rk i (r j)
 toff : ∀ k, k < n → ¬ Rk k t ∧ ¬ Rk k b ∧ ¬ Rk k f
structure RTabV (w : World) (base : Nat) (Q : Nat → Prop) (N t b f cb cf : Nat) (x : Cf) (ab af : Array Value) (r : Nat → Nat) (Rk : Nat → Nat → Prop) (ps : Nat → List Pa) (a : Mo) : Prop where
 box : Is w t 55 (a.rcells x b f cb cf)
 core : RCore w N t b f ab af r Rk ps a.n a.room a.bk a.fd
 inn : Q t ∧ Q b ∧ Q f
 sub : ∀ k, k < a.n → Q (r k) ∧ ∀ y, Rk k y → Q y
 ok : ∀ y, Q y → base ≤ y ∧ y < w.heap.size
def RTab (w : World) (base : Nat) (Q : Nat → Prop) (N t : Nat) (x : Cf) (a : Mo) : Prop := ∃ b f cb cf ab af r Rk ps, RTabV w base Q N t b f cb cf x ab af r Rk ps a
section
variable {w w' : World} {base N t b f cb cf n room : Nat} {Q T : Nat → Prop} {x : Cf} {ab af : Array Value} {r : Nat → Nat} {Rk : Nat → Nat → Prop} {ps : Nat → List Pa} {a : Mo} {bk : Nat → List (ByteArray × En)} {fd : Nat → St}
theorem RCore.touch (h : RCore w N t b f ab af r Rk ps n room bk fd) (ht : Law.Touch w w' T) (h1 : ¬ T b) (h2 : ¬ T f) (h3 : ∀ k, k < n → ¬ T (r k)) (h4 : ∀ k, k < n → ∀ y, Rk k y → ¬ T y) (hs : Still w w') : RCore w' N t b f ab af r Rk ps n room bk fd :=
 ⟨ht.is h.brow h1, ht.is h.frow h2, fun k hk => by obtain ⟨A, c, e, hu⟩ := h.bat k hk; exact ⟨A, c, e, hs.users hu⟩, h.fat, fun k hk => (h.ref k hk).touch ht (h4 k hk) (h3 k hk), h.inv, h.rne, h.roff, h.toff⟩
theorem RCore.more {M : Nat} (h : RCore w N t b f ab af r Rk ps n room bk fd) (hm : N ≤ M) : RCore w M t b f ab af r Rk ps n room bk fd := ⟨h.brow, h.frow, h.bat, h.fat, h.ref, fun k hk => (h.inv k hk).more hm, h.rne, h.roff, h.toff⟩
theorem RTabV.more {M : Nat} (h : RTabV w base Q N t b f cb cf x ab af r Rk ps a) (hm : N ≤ M) : RTabV w base Q M t b f cb cf x ab af r Rk ps a := ⟨h.box, h.core.more hm, h.inn, h.sub, h.ok⟩
theorem RTabV.touch (h : RTabV w base Q N t b f cb cf x ab af r Rk ps a) (ht : Law.Touch w w' T) (hd : ∀ y, Q y → ¬ T y) (hs : Still w w') : RTabV w' base Q N t b f cb cf x ab af r Rk ps a :=
 ⟨ht.is h.box (hd _ h.inn.1), h.core.touch ht (hd _ h.inn.2.1) (hd _ h.inn.2.2) (fun k hk => hd _ (h.sub k hk).1) (fun k hk y hy => hd _ ((h.sub k hk).2 y hy)) hs, h.inn, h.sub, fun y hy => ⟨(h.ok y hy).1, Nat.lt_of_lt_of_le (h.ok y hy).2 ht.size⟩⟩
theorem RTabV.below (h : RTabV w base Q N t b f cb cf x ab af r Rk ps a) (hb : Below w.heap.size w w') : RTabV w' base Q N t b f cb cf x ab af r Rk ps a := h.touch (Law.Touch.of_below hb fun _ => False) (fun _ _ h => h) (Still.of_below hb)
theorem RTabV.tab (h : RTabV w base Q N t b f cb cf x ab af r Rk ps a) : RTab w base Q N t x a := ⟨b, f, cb, cf, ab, af, r, Rk, ps, h⟩
theorem RTab.more {M : Nat} (h : RTab w base Q N t x a) (hm : N ≤ M) : RTab w base Q M t x a := by
 obtain ⟨b, f, cb, cf, ab, af, r, Rk, ps, h⟩ := h
 exact (h.more hm).tab
theorem RTab.touch (h : RTab w base Q N t x a) (ht : Law.Touch w w' T) (hd : ∀ y, Q y → ¬ T y) (hs : Still w w') : RTab w' base Q N t x a := by
 obtain ⟨b, f, cb, cf, ab, af, r, Rk, ps, h⟩ := h
 exact (h.touch ht hd hs).tab
theorem RTab.below (h : RTab w base Q N t x a) (hb : Below w.heap.size w w') : RTab w' base Q N t x a := h.touch (Law.Touch.of_below hb fun _ => False) (fun _ _ h => h) (Still.of_below hb)
theorem RTab.ok (h : RTab w base Q N t x a) : ∀ y, Q y → base ≤ y ∧ y < w.heap.size := by obtain ⟨_, _, _, _, _, _, _, _, _, h⟩ := h; exact h.ok
theorem RTabV.tb (h : RTabV w base Q N t b f cb cf x ab af r Rk ps a) : b ≠ t := h.core.brow.type_ne h.box (by decide)
theorem RTabV.tf (h : RTabV w base Q N t b f cb cf x ab af r Rk ps a) : f ≠ t := h.core.frow.type_ne h.box (by decide)
theorem RTabV.tr (h : RTabV w base Q N t b f cb cf x ab af r Rk ps a) {k : Nat} (hk : k < a.n) : r k ≠ t := by obtain ⟨cr, hi⟩ := (h.core.ref k hk).box; exact hi.type_ne h.box (by decide)
theorem RTabV.time (h : RTabV w base Q N t b f cb cf x ab af r Rk ps a) (i : Nat) (v : Value) {a' : Mo} (hn : a'.n = a.n) (hr : a'.room = a.room) (hb : a'.bk = a.bk) (hf : a'.fd = a.fd) (hc : (a.rcells x b f cb cf).setIfInBounds i v = a'.rcells x b f cb cf) :
  RTabV (w.setCell ⟨t, i, none⟩ v) base Q N t b f cb cf x ab af r Rk ps a' ∧ Gone w Q (w.setCell ⟨t, i, none⟩ v) Q := by
 have ht := Law.Touch.store (T := fun n => n = t) w ⟨t, i, none⟩ v rfl
 have hs : Still w (w.setCell ⟨t, i, none⟩ v) := Still.store h.box (by decide) (by decide) (by decide) v
 refine ⟨⟨h.box.set i v hc, ?_, h.inn, ?_, fun y hy => ⟨(h.ok y hy).1, by simpa using (h.ok y hy).2⟩⟩, ⟨Law.Touch.store w ⟨t, i, none⟩ v h.inn.1, fun _ h => .inl h, hs⟩⟩
 ·rw [hn, hr, hb, hf]
  exact h.core.touch ht h.tb h.tf (fun k hk => h.tr hk) (fun k hk y hy e => (h.core.toff k hk).1 (e ▸ hy)) hs
 ·rw [hn]; exact h.sub
theorem RTabV.put (h : RTabV w base Q N t b f cb cf x ab af r Rk ps a) {k : Nat} (hk : k < a.n) {A : Option Addr} {c : Nat} {nb : List (ByteArray × En)} (hq : UsersAt w A nb) :
  RTabV (w.setCell ⟨b, k, none⟩ (.slice A nb.length c)) base Q N t b f cb cf x (ab.setIfInBounds k (.slice A nb.length c)) af r Rk ps { a with bk := upd a.bk k nb } ∧ Gone w Q (w.setCell ⟨b, k, none⟩ (.slice A nb.length c)) Q := by
 have ht := Law.Touch.store (T := fun n => n = b) w ⟨b, k, none⟩ (.slice A nb.length c) rfl
 have hs : Still w (w.setCell ⟨b, k, none⟩ (.slice A nb.length c)) := Still.store h.core.brow (by decide) (by decide) (by decide) _
 have hbf : f ≠ b := h.core.frow.type_ne h.core.brow (by decide)
 have hbr : ∀ i, i < a.n → r i ≠ b := fun i hi => by obtain ⟨cr, h1⟩ := (h.core.ref i hi).box; exact h1.type_ne h.core.brow (by decide)
 refine ⟨⟨ht.is h.box (fun e => h.tb e.symm), ⟨h.core.brow.set k _ rfl, ht.is h.core.frow hbf, fun i hi => ?_, h.core.fat, fun i hi => (h.core.ref i hi).touch ht (fun y hy e => (h.core.toff i hi).2.1 (e ▸ hy)) (hbr i hi), h.core.inv, h.core.rne, h.core.roff, h.core.toff⟩, h.inn, h.sub, fun y hy => ⟨(h.ok y hy).1, by simpa using (h.ok y hy).2⟩⟩, ⟨Law.Touch.store w ⟨b, k, none⟩ _ h.inn.2.1, fun _ h => .inl h, hs⟩⟩
 show ∃ A' c', (ab.setIfInBounds k (.slice A nb.length c))[i]? = some (.slice A' (upd a.bk k nb i).length c') ∧ UsersAt _ A' (upd a.bk k nb i)
 obtain ⟨A0, c0, e0, hu⟩ := h.core.bat i hi
 by_cases e : i = k
 ·subst e
  have hlt : i < ab.size := (Array.getElem?_eq_some_iff.1 e0).1
  rw [upd_same, Array.getElem?_setIfInBounds_self_of_lt hlt]
  exact ⟨A, c, rfl, hs.users hq⟩
 ·rw [upd_other _ _ e]
  exact ⟨A0, c0, set_at _ _ _ (fun e' => e e') e0, hs.users hu⟩
theorem RTabV.go (h : RTabV w base Q N t b f cb cf x ab af r Rk ps a) {k : Nat} (hk : k < a.n) {M : Nat} (hM : N ≤ M) {s' : St} {R' : Nat → Prop} {ps' : List Pa} (hR : RefAt w' R' (r k) a.room ps' s'.que s'.los) (hW : RWent w (Rk k) (r k) w' R') (hI : PI M s' ps') :
  RTabV w' base (fun y => Q y ∨ R' y) M t b f cb cf x ab af r (upd Rk k R') (upd ps k ps') { a with fd := upd a.fd k s' } ∧ Gone w Q w' (fun y => Q y ∨ R' y) := by
 obtain ⟨cr, hcr⟩ := (h.core.ref k hk).box
 have hs : Still w w' := Still.touch1 hW.touch hcr (by decide) (by decide) (by decide)
 have hnew : ∀ y, R' y → Rk k y ∨ w.heap.size ≤ y := hW.new
 have hbr : b ≠ r k := h.core.brow.type_ne hcr (by decide)
 have hfr : f ≠ r k := h.core.frow.type_ne hcr (by decide)
 have off : ∀ y, y < w.heap.size → ¬ Rk k y → ¬ R' y := fun y hl hn h' => (hnew y h').elim hn (fun h' => by omega)
 refine ⟨⟨hW.touch.is h.box (fun e => h.tr hk e.symm), ⟨hW.touch.is h.core.brow hbr, hW.touch.is h.core.frow hfr, fun i hi => ?_, h.core.fat, fun i hi => ?_, fun i hi => ?_, h.core.rne, fun i j hi hj => ?_, fun i hi => ?_⟩, ⟨.inl h.inn.1, .inl h.inn.2.1, .inl h.inn.2.2⟩, fun i hi => ⟨.inl (h.sub i hi).1, fun y hy => ?_⟩, fun y hy => ?_⟩, ⟨hW.touch.mono (fun y e => e ▸ (h.sub k hk).1), fun y hy => hy.elim .inl (fun h' => (hnew y h').imp ((h.sub k hk).2 y) id), hs⟩⟩
 ·obtain ⟨A, c, e, hu⟩ := h.core.bat i hi
  exact ⟨A, c, e, hs.users hu⟩
 ·show RefAt w' (upd Rk k R' i) (r i) a.room (upd ps k ps' i) (upd a.fd k s' i).que (upd a.fd k s' i).los
  by_cases e : i = k
  ·subst e; rw [upd_same, upd_same, upd_same]; exact hR
  ·rw [upd_other _ _ e, upd_other _ _ e, upd_other _ _ e]
   exact (h.core.ref i hi).touch hW.touch (fun y hy e' => h.core.roff i k hi hk (e' ▸ hy)) (h.core.rne i k hi hk e)
 ·show PI M (upd a.fd k s' i) (upd ps k ps' i)
  by_cases e : i = k
  ·subst e; rw [upd_same, upd_same]; exact hI
  ·rw [upd_other _ _ e, upd_other _ _ e]; exact (h.core.inv i hi).more hM
 ·by_cases e : i = k
  ·subst e; rw [upd_same]
   obtain ⟨cr2, h2⟩ := (h.core.ref j hj).box
   exact off _ h2.lt (h.core.roff i j hi hj)
  ·rw [upd_other _ _ e]; exact h.core.roff i j hi hj
 ·by_cases e : i = k
  ·subst e; rw [upd_same]
   exact ⟨off _ h.box.lt (h.core.toff i hi).1, off _ h.core.brow.lt (h.core.toff i hi).2.1, off _ h.core.frow.lt (h.core.toff i hi).2.2⟩
  ·rw [upd_other _ _ e]; exact h.core.toff i hi
 ·by_cases e : i = k
  ·subst e; rw [upd_same] at hy; exact .inr hy
  ·rw [upd_other _ _ e] at hy; exact .inl ((h.sub i hi).2 y hy)
 ·exact hy.elim (fun h' => ⟨(h.ok y h').1, Nat.lt_of_lt_of_le (h.ok y h').2 hW.touch.size⟩) (fun h' => ⟨(hnew y h').elim (fun h'' => (h.ok y ((h.sub k hk).2 y h'')).1) (fun h'' => Nat.le_trans (Nat.le_of_lt (Nat.lt_of_le_of_lt (h.ok t h.inn.1).1 (h.ok t h.inn.1).2)) h''), hR.ok y h'⟩)
set_option maxRecDepth 100000 in
set_option maxHeartbeats 1000000 in
theorem rtake (h : RTabV w base Q N t b f cb cf x ab af r Rk ps a) (hs : Door.U a.seq) :
  Calls Tryz.prog 28 #[.pointer (some ⟨t, 0, none⟩)] w fun e w' => e = .returned (.int .u64 (Door.sat a.seq 1)) ∧ RTabV w' base Q N t b f cb cf x ab af r Rk ps a.take ∧ Gone w Q w' Q := by
 have c2 : w.cell? ⟨t, 8, none⟩ = some (.int .u64 a.seq) := h.box.cell' rfl
 have f2 := h.box.frozen 8
 have l1 := h.box.lt
 have H := Lib.hid (h.time 8 (.int .u64 (Door.sat a.seq 1)) (a' := a.take) rfl rfl rfl rfl rfl)
 clear h
 go_enter Tryz.func28, Tryz.ntmps28
 go_wp2_with fail
 refine (Tick.refAdd a.seq 1 hs Door.U1 w).mono ?_
 rintro e w' ⟨rfl, rfl⟩
 go_wp2_with fail
 have c3 := H.out.1.box.cell' (i := 8) rfl
 have l3 := H.out.1.box.lt
 go_wp2_with fail
 go_ret
 exact ⟨rfl, H.out.1, H.out.2⟩
set_option maxRecDepth 100000 in
set_option maxHeartbeats 1000000 in
theorem rtick (h : RTabV w base Q N t b f cb cf x ab af r Rk ps a) (hn : Door.U a.now) (by_ : Int) (hb : Door.U by_) :
  Calls Tryz.prog 11 #[.pointer (some ⟨t, 0, none⟩), .int .u64 by_] w fun e w' => e = .returned (.tuple #[]) ∧ RTabV w' base Q N t b f cb cf x ab af r Rk ps (a.tick by_) ∧ Gone w Q w' Q := by
 have c2 : w.cell? ⟨t, 7, none⟩ = some (.int .u64 a.now) := h.box.cell' rfl
 have f2 := h.box.frozen 7
 have l1 := h.box.lt
 have H := Lib.hid (h.time 7 (.int .u64 (Door.sat a.now by_)) (a' := a.tick by_) rfl rfl rfl rfl rfl)
 clear h
 go_enter Tryz.func11, Tryz.ntmps11
 go_wp2_with fail
 refine (Tick.refAdd a.now by_ hn hb w).mono ?_
 rintro e w' ⟨rfl, rfl⟩
 go_wp2_with fail
 go_end0
 exact ⟨rfl, H.out.1, H.out.2⟩
end
end Mod
end Go.Proofs.YtohdlnefgieenaaGreat
namespace Go.Proofs.YtohdlnefgieenaaGreat
open Go.RowKit Go.Shelf
attribute [local go_sem] Oper.semAt_some
namespace Mod
open Go.Law Feed Bk
theorem rstripe (u : ByteArray) (n : Nat) (w : World) (hs : u.size ≤ maxLen) (h8 : n ≤ 8) {k : Nat} (hk : str u n = k) :
  Calls Tryz.prog 34 #[.string u, .int .i64 (n : Int)] w fun e w' => e = .returned (.int .i64 (k : Int)) ∧ w = w' := by
 subst hk
 exact Hash.refStripe u n w hs (by omega)
section
variable {w w' : World} {base N t b f cb cf n room bd : Nat} {Q T : Nat → Prop} {x : Cf} {ab af : Array Value} {r : Nat → Nat} {Rk : Nat → Nat → Prop} {ps : Nat → List Pa} {a : Mo} {bk : Nat → List (ByteArray × En)} {fd : Nat → St}
theorem RTabV.c (h : RTabV w base Q N t b f cb cf x ab af r Rk ps a) (hb : Below w.heap.size w w') {i : Nat} {v : Value} (hv : (a.rcells x b f cb cf)[i]? = some v) : w'.cell? ⟨t, i, none⟩ = some v := (hb.cell (p := ⟨t, i, none⟩) h.box.lt).trans (h.box.cell' hv)
theorem RTabV.cu (h : RTabV w base Q N t b f cb cf x ab af r Rk ps a) (hb : Below w.heap.size w w') {i : Nat} {v : Value} (hv : ab[i]? = some v) : w'.cell? ⟨b, i, none⟩ = some v := (hb.cell (p := ⟨b, i, none⟩) h.core.brow.lt).trans (h.core.brow.cell' hv)
theorem RTabV.cq (h : RTabV w base Q N t b f cb cf x ab af r Rk ps a) (hb : Below w.heap.size w w') {k : Nat} (hk : k < a.n) : w'.cell? ⟨f, k, none⟩ = some (.pointer (some ⟨r k, 0, none⟩)) := (hb.cell (p := ⟨f, k, none⟩) h.core.frow.lt).trans (h.core.frow.cell' (h.core.fat k hk))
set_option maxRecDepth 100000 in
set_option maxHeartbeats 1000000 in
theorem rpresence (h : RTab w base Q N t x a) (ho : a.Ok bd) (hbd : bd ≤ 380) (u : ByteArray) (hu : u.size ≤ maxLen) {s0 s1 s2 : Int} (hp : a.pres u = (s0, s1, s2)) :
  Calls Tryz.prog 17 #[.pointer (some ⟨t, 0, none⟩), .string u] w fun e w' => e = .returned (.agg #[.int .i64 s0, .int .i64 s1, .int .i64 s2]) ∧ Below w.heap.size w w' := by
 obtain ⟨b, f, cb, cf, ab, af, r, Rk, ps, h⟩ := h
 have hlt : str u a.n < a.n := str_lt u ho.n1
 have hn8 := ho.n8
 obtain ⟨k, hk⟩ : ∃ k, str u a.n = k := ⟨_, rfl⟩
 rw [hk] at hlt
 obtain ⟨A, c, hab, hus⟩ := h.core.bat k hlt
 have HO := Lib.hid ho
 have HP : Hid (presS a.now (sesK u (a.bk k)) = (s0, s1, s2)) := by show _ = _; rw [← hk]; exact hp
 have HK := Lib.hid hk
 have HUS := Lib.hid hus
 have HKS : Hid (∀ W, Below w.heap.size w W → W.cell? ⟨t, 10, none⟩ = some (.slice (some ⟨b, 0, none⟩) a.n cb) ∧ W.cell? ⟨t, 0, none⟩ = some (.int .i64 (a.n : Int)) ∧ W.cell? ⟨t, 7, none⟩ = some (.int .u64 a.now) ∧ W.cell? ⟨b, k, none⟩ = some (.slice A (a.bk k).length c)) := fun W hb => ⟨h.c hb rfl, h.c hb rfl, h.c hb rfl, h.cu hb hab⟩
 have hlb : (a.bk k).length ≤ 900 := by have := (ho.fit k hlt).len; omega
 have hls : (sesK u (a.bk k)).length ≤ 900 := by have := (ho.fit k hlt).of u; omega
 have HRS := Lib.hid (ho.fit k hlt).book.1
 have b0 : Below w.heap.size w (w.alloc (.cells #[.int .i64 0, .int .i64 0, .int .i64 0] 57)).drew := Law.below_drewN ((Below.refl w.heap.size w).alloc (Nat.le_refl _) (.cells #[.int .i64 0, .int .i64 0, .int .i64 0] 57)) 1
 have HX : Hid (Is (w.alloc (.cells #[.int .i64 0, .int .i64 0, .int .i64 0] 57)).drew w.heap.size 57 #[.int .i64 0, .int .i64 0, .int .i64 0]) := (Is.drewN (Is.new w 57 #[.int .i64 0, .int .i64 0, .int .i64 0] rfl) 1)
 have HB0 := Lib.hid b0
 clear b0 h ho hp hk hus hab
 go_enter Tryz.func17, Tryz.ntmps17
 go_wp2_with fail
 refine wp_region_held_drew (S := fun w' => w'.cell? ⟨t, 10, none⟩ = some (.slice (some ⟨b, 0, none⟩) a.n cb) ∧ w'.cell? ⟨t, 0, none⟩ = some (.int .i64 (a.n : Int)) ∧ w'.cell? ⟨t, 7, none⟩ = some (.int .u64 a.now) ∧ w'.cell? ⟨b, k, none⟩ = some (.slice A (a.bk k).length c)) (by kernel_rfl) (HKS.out _ HB0.out) (fun hS0 => ?_)
 refine Go.Law.tk 0 ⟨some 5, .move (.tmp 0), _, _, _, _⟩ (v := .pointer (some ⟨t, 0, none⟩)) hS0 ?_ ?_
 ·intro w' hSw
  go_simp
 try simp only [Go.Law.pz]
 refine Go.Law.tk 1 ⟨some 6, .nilCheck (.tmp 5), _, _, _, _⟩ (v := .pointer (some ⟨t, 0, none⟩)) hS0 ?_ ?_
 ·intro w' hSw
  go_simp
 try simp only [Go.Law.pz]
 refine Go.Law.tk 2 ⟨some 7, .fieldAddr 55 (.tmp 6) 2, _, _, _, _⟩ (v := .pointer (some ⟨t, 10, none⟩)) hS0 ?_ ?_
 ·intro w' hSw
  go_simp
 try simp only [Go.Law.pz]
 refine Go.Law.tk 3 ⟨some 8, .load 52 (.tmp 7), _, _, _, _⟩ (v := .slice (some ⟨b, 0, none⟩) a.n cb) hS0 ?_ ?_
 ·intro w' hSw
  obtain ⟨s1, s2, s3, s4⟩ := hSw
  go_simp
 try simp only [Go.Law.pz]
 refine Go.Law.tk 4 ⟨some 9, .move (.tmp 1), _, _, _, _⟩ (v := .string u) hS0 ?_ ?_
 ·intro w' hSw
  go_simp
 try simp only [Go.Law.pz]
 refine Go.Law.tk 5 ⟨some 10, .move (.tmp 0), _, _, _, _⟩ (v := .pointer (some ⟨t, 0, none⟩)) hS0 ?_ ?_
 ·intro w' hSw
  go_simp
 try simp only [Go.Law.pz]
 refine Go.Law.tk 6 ⟨some 11, .nilCheck (.tmp 10), _, _, _, _⟩ (v := .pointer (some ⟨t, 0, none⟩)) hS0 ?_ ?_
 ·intro w' hSw
  go_simp
 try simp only [Go.Law.pz]
 refine Go.Law.tk 7 ⟨some 12, .fieldAddr 55 (.tmp 11) 0, _, _, _, _⟩ (v := .pointer (some ⟨t, 0, none⟩)) hS0 ?_ ?_
 ·intro w' hSw
  go_simp
 try simp only [Go.Law.pz]
 refine Go.Law.tk 8 ⟨some 13, .fieldAddr 24 (.tmp 12) 0, _, _, _, _⟩ (v := .pointer (some ⟨t, 0, none⟩)) hS0 ?_ ?_
 ·intro w' hSw
  go_simp
 try simp only [Go.Law.pz]
 refine Go.Law.tk 9 ⟨some 14, .load 3 (.tmp 13), _, _, _, _⟩ (v := .int .i64 (a.n : Int)) hS0 ?_ ?_
 ·intro w' hSw
  obtain ⟨s1, s2, s3, s4⟩ := hSw
  go_simp
 try simp only [Go.Law.pz]
 refine Go.Law.tk 13 ⟨some 18, .move (.tmp 1), _, _, _, _⟩ (v := .string u) hS0 ?_ ?_
 ·intro w' hSw
  go_simp
 try simp only [Go.Law.pz]
 refine Go.Law.tk 14 ⟨some 19, .move (.tmp 0), _, _, _, _⟩ (v := .pointer (some ⟨t, 0, none⟩)) hS0 ?_ ?_
 ·intro w' hSw
  go_simp
 try simp only [Go.Law.pz]
 refine Go.Law.tk 15 ⟨some 20, .nilCheck (.tmp 19), _, _, _, _⟩ (v := .pointer (some ⟨t, 0, none⟩)) hS0 ?_ ?_
 ·intro w' hSw
  go_simp
 try simp only [Go.Law.pz]
 refine Go.Law.tk 16 ⟨some 21, .fieldAddr 55 (.tmp 20) 1, _, _, _, _⟩ (v := .pointer (some ⟨t, 7, none⟩)) hS0 ?_ ?_
 ·intro w' hSw
  go_simp
 try simp only [Go.Law.pz]
 refine Go.Law.tk 17 ⟨some 22, .fieldAddr 50 (.tmp 21) 0, _, _, _, _⟩ (v := .pointer (some ⟨t, 7, none⟩)) hS0 ?_ ?_
 ·intro w' hSw
  go_simp
 try simp only [Go.Law.pz]
 refine Go.Law.tk 18 ⟨some 23, .load 22 (.tmp 22), _, _, _, _⟩ (v := .int .u64 a.now) hS0 ?_ ?_
 ·intro w' hSw
  obtain ⟨s1, s2, s3, s4⟩ := hSw
  go_simp
 try simp only [Go.Law.pz]
 generalize (w.alloc (.cells #[.int .i64 0, .int .i64 0, .int .i64 0] 57)).drew = W at *
 refine wpAnyH_ready (rs := [10]) (by kernel_rfl) (by simp) ?_
 refine AllReadyH.cons (o := ⟨some 15, .call { callee := .value (.func 34), args := #[.tmp 9, .tmp 14], argTypes := _ }, _, _, _, _⟩) rfl (fun K hK => ?_) AllReadyH.nil
 go_simp
 refine Calls.mono (rstripe u a.n W hu hn8 HK.out) ?_
 rintro e w1 ⟨rfl, rfl⟩
 go_wp2_with fail
 refine hK.out _ _ (HKS.out _ HB0.out) (fun hS1 => ?_)
 clear hK K
 try simp only [Go.Law.pz]
 refine Go.Law.tk 11 ⟨some 16, .indexAddr 52 (.tmp 8) (.tmp 15), _, _, _, _⟩ (v := .pointer (some ⟨b, k, none⟩)) hS1 ?_ ?_
 ·intro w' hSw
  go_simp; (try (intro h8; omega))
 try simp only [Go.Law.pz]
 refine Go.Law.tk 12 ⟨some 17, .load 84 (.tmp 16), _, _, _, _⟩ (v := .slice A (a.bk k).length c) hS1 ?_ ?_
 ·intro w' hSw
  obtain ⟨s1, s2, s3, s4⟩ := hSw
  go_simp
 try simp only [Go.Law.pz]
 refine wpAnyH_ready (rs := [19]) (by kernel_rfl) (by simp) ?_
 refine AllReadyH.cons (o := ⟨some 24, .call { callee := .value (.func 43), args := #[.tmp 17, .tmp 18, .tmp 23], argTypes := _ }, _, _, _, _⟩) rfl (fun K hK => ?_) AllReadyH.nil
 go_simp
 refine Calls.mono (refPresence u a.now HP.out (HUS.out.now HB0.out) HRS.out hls hlb) ?_
 rintro e w2 ⟨rfl, b2⟩
 have HX2 := Lib.hid (HX.out.below b2 HX.out.lt)
 have HB2 := Lib.hid (HB0.out.trans (b2.mono HB0.out.size))
 go_wp2_with fail
 refine hK.out _ _ (HKS.out _ (HB0.out.trans (b2.mono HB0.out.size))) (fun hS2 => ?_)
 clear hK K
 try simp only [Go.Law.pz]
 have lx := HX2.out.lt
 have x0 := HX2.out.cell' (i := 0) rfl
 have x1 := HX2.out.cell' (i := 1) rfl
 have x2 := HX2.out.cell' (i := 2) rfl
 have fx0 := HX2.out.frozen 0
 have fx1 := HX2.out.frozen 1
 have fx2 := HX2.out.frozen 2
 have HI3 := Lib.hid (((HX2.out.set 0 (.int .i64 s0) rfl).set 1 (.int .i64 s1) rfl).set 2 (.int .i64 s2) rfl)
 have HB3 := Lib.hid (((HB2.out.setCell (p := ⟨w.heap.size, 0, none⟩) (Nat.le_refl _) (.int .i64 s0)).setCell (p := ⟨w.heap.size, 1, none⟩) (Nat.le_refl _) (.int .i64 s1)).setCell (p := ⟨w.heap.size, 2, none⟩) (Nat.le_refl _) (.int .i64 s2))
 refine wpAnyH_ready (rs := [20]) (by kernel_rfl) (by simp) ?_
 refine AllReadyH.cons (o := ⟨none, .store 57 (.tmp 4) (.tmp 24), _, _, _, _⟩) rfl (fun K hK => ?_) AllReadyH.nil
 go_simp
 refine hK.out _ _ (HKS.out _ HB3.out) (fun hS4 => ?_)
 clear hK K
 try simp only [Go.Law.pz]
 refine wpAnyH_done (by kernel_rfl) ?_ _
 generalize ((w2.setCell ⟨w.heap.size, 0, none⟩ (.int .i64 s0)).setCell ⟨w.heap.size, 1, none⟩ (.int .i64 s1)).setCell ⟨w.heap.size, 2, none⟩ (.int .i64 s2) = w4 at *
 have n0 := HI3.out.cell' (i := 0) rfl
 have n1 := HI3.out.cell' (i := 1) rfl
 have n2 := HI3.out.cell' (i := 2) rfl
 go_wp2_with fail
 exact bodyPost_ret (v := .agg #[.int .i64 s0, .int .i64 s1, .int .i64 s2]) (by simp [results, Tryz.results17, go_sem, n0, n1, n2]) rfl ⟨rfl, HB3.out⟩
theorem storedB_snoc {l : List (ByteArray × En)} {i : Nat} (h : i < l.length) : storedB (l.take (i + 1)) = storedB (l.take i) + l[i].2.1.length := by
 unfold storedB
 rw [List.take_succ_eq_append_getElem h, List.map_append, List.sum_append]
 simp
theorem storedB_take {l : List (ByteArray × En)} (i : Nat) : storedB (l.take i) ≤ storedB l := by
 unfold storedB
 conv => rhs; rw [← List.take_append_drop i l, List.map_append, List.sum_append]
 omega
set_option maxRecDepth 100000 in
set_option maxHeartbeats 1000000 in
theorem rstored (h : RTab w base Q N t x a) (ho : a.Ok bd) (hbd : bd ≤ 380) {m : Int} (hm : (a.stored : Int) = m) :
  Calls Tryz.prog 19 #[.pointer (some ⟨t, 0, none⟩)] w fun e w' => e = .returned (.int .i64 m) ∧ w = w' := by
 obtain ⟨b, f, cb, cf, ab, af, r, Rk, ps, h⟩ := h
 have c0 : w.cell? ⟨t, 10, none⟩ = some (.slice (some ⟨b, 0, none⟩) a.n cb) := h.box.cell' rfl
 have l0 := h.box.lt
 have l1 := h.core.brow.lt
 have H := Lib.hid h
 have HO := Lib.hid ho
 have HM : Hid ((storedUpto a a.n : Int) = m) := hm
 have hn8 := ho.n8
 clear h ho hm
 go_enter Tryz.func19, Tryz.ntmps19
 go_wp2_with fail
 go_loop [3, 4] (fun vn vi => ∃ j : Nat, j ≤ a.n ∧ vi = .int .i64 j ∧ vn = .int .i64 (storedUpto a j : Int)) (fun _ vi => a.n - (intOf vi).toNat)
 case atStart => exact ⟨0, Nat.zero_le _, rfl, rfl⟩
 case round =>
  obtain ⟨j, hj, rfl, rfl⟩ := hrel
  by_cases hlt : j < a.n
  ·have d1 : decide ((j : Int) < (a.n : Int)) = true := by simp; omega
   obtain ⟨A, c, hab, hus⟩ := H.out.core.bat j hlt
   have c1 : w.cell? ⟨b, j, none⟩ = some (.slice A (a.bk j).length c) := H.out.core.brow.cell' hab
   have HNX := Lib.hid (storedUpto_next a j)
   have hfb := storedUpto_small HO.out hbd (j := j) (by omega)
   have hfb2 := storedUpto_small HO.out hbd (j := j + 1) (by omega)
   rw [HNX.out] at hfb2
   have hlb : (a.bk j).length ≤ 380 := by have := (HO.out.fit j hlt).len; omega
   obtain ⟨xs, hx, hin, hxb⟩ := hus
   have HXS := Lib.hid hx
   have HIN := Lib.hid hin
   have HXB := Lib.hid hxb
   have hxl : (a.bk j).length = xs.length := by rw [← hxb, mapV_length]
   generalize a.bk j = bj at *
   generalize storedUpto a j = sj at *
   clear hab hx hin hxb
   go_wp2_with fail
   go_loop [3, 5] (fun vn vi => ∃ i : Nat, i ≤ bj.length ∧ vi = .int .i64 i ∧ vn = .int .i64 ((sj + storedB (bj.take i) : Nat) : Int)) (fun _ vi => bj.length - (intOf vi).toNat)
   case atStart => exact ⟨0, Nat.zero_le _, rfl, by simp [storedB]⟩
   case round =>
    obtain ⟨i, hi, rfl, rfl⟩ := hrel
    by_cases hil : i < bj.length
    ·have d2 : decide ((i : Int) < (bj.length : Int)) = true := by simp; omega
     have hix : i < xs.length := by omega
     obtain ⟨g, off, rfl, _, hg, _, q1, _⟩ := HXS.out.seq.us hix
     have hvn := (HIN.out _ (List.getElem_mem hix)).1
     have HSN := Lib.hid (storedB_snoc hil)
     have hbe : bj[i].2.1 = xs[i].2.ss := by
      have h1 : bj[i] = (xs[i].1, xs[i].2.en) := by
       have h0 := HXB.out
       subst h0
       simp [mapV]
      rw [h1]
      rfl
     have htk := storedB_take (l := bj) (i + 1)
     have htk0 := storedB_take (l := bj) i
     rw [hbe] at HSN
     have HV := Lib.hid hvn
     rw [HSN.out] at htk
     rw [hvn] at q1
     generalize xs[i].2.ss.length = z at *
     generalize storedB (bj.take i) = y at *
     clear hbe hvn
     go_wp2_with fail
     go_round
     case rel => exact ⟨i + 1, by omega, by go_num, by rw [HSN.out]; go_num⟩
     case measure => simp [intOf]; omega
    ·have d2 : decide ((i : Int) < (bj.length : Int)) = false := by simp; omega
     have e1 : bj.take i = bj := List.take_of_length_le (by omega)
     rw [e1]
     go_wp2_with fail
     go_round
     case rel => exact ⟨j + 1, by omega, by go_num, by rw [HNX.out]⟩
     case measure => simp [intOf]; omega
  ·have d1 : decide ((j : Int) < (a.n : Int)) = false := by simp; omega
   obtain rfl : j = a.n := by omega
   go_wp2_with fail
   go_ret
   exact ⟨by rw [← HM.out]; rfl, rfl⟩
theorem rtell (h : RTabV w base Q N t b f cb cf x ab af r Rk ps a) {k : Nat} (hk : k < a.n) (hN : N ≤ 1000) {A : Option Addr} {c : Nat} {cs : List Ch} (seq : Int) (hl : Lain 131 w A (flatC cs)) (hq : ∀ i, i < 8 → ((a.fd k).que i).length + cs.length ≤ 500) :
  Calls Tryz.prog 30 #[.pointer (some ⟨r k, 0, none⟩), .slice A cs.length c, .int .u64 seq] w fun e w' => e = .returned (.tuple #[]) ∧ ∃ Q' Rk' ps', RTabV w' base Q' N t b f cb cf x ab af r Rk' ps' { a with fd := upd a.fd k ((a.fd k).tell a.room (cs.map cgOf) seq) } ∧ Gone w Q w' Q' := by
 have hI := h.core.inv k hk
 have h1 := rTellN (c := c) (h.core.ref k hk) (cs.map cgOf) seq (by rw [flat_cg]; exact hl) (fun i hi u => hI.has hi u) (Nat.le_trans hI.lp hN) (fun i hi => by simpa using hq i hi)
 rw [List.length_map, show ((a.room : Int)).toNat = a.room from Int.toNat_natCast _] at h1
 refine h1.mono ?_
 rintro e w' ⟨rfl, R', hR, hW⟩
 have h2 := h.go hk (Nat.le_refl N) hR hW (hI.wat (tellN_wat _ _ _ _))
 exact ⟨rfl, _, _, _, h2.1, h2.2⟩
set_option maxRecDepth 100000 in
set_option maxHeartbeats 1000000 in
theorem rsweep (h : RTab w base Q N t x a) (hN : N ≤ 1000) (ho : a.Ok bd) (hbd : bd ≤ 380) (s : Int) :
  Calls Tryz.prog 12 #[.pointer (some ⟨t, 0, none⟩), .int .i64 s] w fun e w' => e = .returned (.tuple #[]) ∧ ∃ Q', RTab w' base Q' N t x (a.sweep s) ∧ Gone w Q w' Q' := by
 obtain ⟨b, f, cb, cf, ab, af, r, Rk, ps, h⟩ := h
 have hn8 := ho.n8
 by_cases hs : 0 ≤ s ∧ s < (a.n : Int)
 ·obtain ⟨k, rfl⟩ := Int.eq_ofNat_of_zero_le hs.1
  have hk : k < a.n := by omega
  have HE : Hid (a.sweep (k : Int) = a.take.become k (sweepB a.now (a.bk k)) (sweepC a.now (a.bk k)) (Door.sat a.seq 1)) := by show _ = _; unfold Mo.sweep; rw [if_pos hs]; rfl
  have d0 : decide ((k : Int) < 0) = false := by simp
  have d1 : decide ((a.n : Int) ≤ (k : Int)) = false := by simp; omega
  have c0 : w.cell? ⟨t, 10, none⟩ = some (.slice (some ⟨b, 0, none⟩) a.n cb) := h.box.cell' rfl
  have l0 := h.box.lt
  have H := Lib.hid h
  have HO := Lib.hid ho
  rw [HE.out]
  clear h ho hs
  go_enter Tryz.func12, Tryz.ntmps12
  go_wp2_with fail
  refine (rtake H.out HO.out.seq).mono ?_
  rintro e w1 ⟨rfl, hT, hG⟩
  have HG1 := Lib.hid hG
  obtain ⟨A, c, hab, hus⟩ := hT.core.bat k hk
  have HUS : Hid (UsersAt w1 A (a.bk k)) := hus
  have HKS : Hid (∀ W, Below w1.heap.size w1 W → W.cell? ⟨t, 10, none⟩ = some (.slice (some ⟨b, 0, none⟩) a.n cb) ∧ W.cell? ⟨t, 7, none⟩ = some (.int .u64 a.now) ∧ W.cell? ⟨b, k, none⟩ = some (.slice A (a.bk k).length c)) := fun W hb => ⟨hT.c hb rfl, hT.c hb rfl, hT.cu hb hab⟩
  have H1 := Lib.hid hT
  have l1 := hT.box.lt
  have lb1 := hT.core.brow.lt
  clear hT hG hus hab c0 l0 H
  have hlb : (a.bk k).length ≤ 380 := by have := (HO.out.fit k hk).len; omega
  have HRS := Lib.hid (HO.out.fit k hk).book.1
  have HSS : Hid (∀ q ∈ a.bk k, q.2.1.length ≤ 900) := fun q hq => by have := (HO.out.fit k hk).ses q hq; omega
  have hcl : (sweepC a.now (a.bk k)).length ≤ 380 := Nat.le_trans (List.length_filterMap_le _ _) hlb
  have hque : ∀ i, i < 8 → ((a.fd k).que i).length + (sweepC a.now (a.bk k)).length ≤ 500 := fun i hi => by have := HO.out.que k hk i hi; omega
  have HQU := Lib.hid hque
  have HCL := Lib.hid hcl
  have HB0 : Hid (Below w1.heap.size w1 w1.drew) := Law.below_drewN (Below.refl _ _) 1
  clear hque hcl
  go_wp2_with fail
  refine wp_region_held_drew (S := fun w' => w'.cell? ⟨t, 10, none⟩ = some (.slice (some ⟨b, 0, none⟩) a.n cb) ∧ w'.cell? ⟨t, 7, none⟩ = some (.int .u64 a.now) ∧ w'.cell? ⟨b, k, none⟩ = some (.slice A (a.bk k).length c)) (by kernel_rfl) (HKS.out _ HB0.out) (fun hS0 => ?_)
  refine Go.Law.tk 0 ⟨some 21, .move (.tmp 0), _, _, _, _⟩ (v := .pointer (some ⟨t, 0, none⟩)) hS0 ?_ ?_
  ·intro w' hSw
   go_simp
  try simp only [Go.Law.pz]
  refine Go.Law.tk 1 ⟨some 22, .nilCheck (.tmp 21), _, _, _, _⟩ (v := .pointer (some ⟨t, 0, none⟩)) hS0 ?_ ?_
  ·intro w' hSw
   go_simp
  try simp only [Go.Law.pz]
  refine Go.Law.tk 2 ⟨some 23, .fieldAddr 55 (.tmp 22) 2, _, _, _, _⟩ (v := .pointer (some ⟨t, 10, none⟩)) hS0 ?_ ?_
  ·intro w' hSw
   go_simp
  try simp only [Go.Law.pz]
  refine Go.Law.tk 3 ⟨some 24, .load 52 (.tmp 23), _, _, _, _⟩ (v := .slice (some ⟨b, 0, none⟩) a.n cb) hS0 ?_ ?_
  ·intro w' hSw
   obtain ⟨s1, s2, s3⟩ := hSw
   go_simp
  try simp only [Go.Law.pz]
  refine Go.Law.tk 4 ⟨some 25, .move (.tmp 1), _, _, _, _⟩ (v := .int .i64 (k : Int)) hS0 ?_ ?_
  ·intro w' hSw
   go_simp
  try simp only [Go.Law.pz]
  refine Go.Law.tk 5 ⟨some 26, .indexAddr 52 (.tmp 24) (.tmp 25), _, _, _, _⟩ (v := .pointer (some ⟨b, k, none⟩)) hS0 ?_ ?_
  ·intro w' hSw
   go_simp; (try (intro h8; omega))
  try simp only [Go.Law.pz]
  refine Go.Law.tk 6 ⟨some 27, .load 84 (.tmp 26), _, _, _, _⟩ (v := .slice A (a.bk k).length c) hS0 ?_ ?_
  ·intro w' hSw
   obtain ⟨s1, s2, s3⟩ := hSw
   go_simp
  try simp only [Go.Law.pz]
  refine Go.Law.tk 7 ⟨some 28, .move (.tmp 0), _, _, _, _⟩ (v := .pointer (some ⟨t, 0, none⟩)) hS0 ?_ ?_
  ·intro w' hSw
   go_simp
  try simp only [Go.Law.pz]
  refine Go.Law.tk 8 ⟨some 29, .nilCheck (.tmp 28), _, _, _, _⟩ (v := .pointer (some ⟨t, 0, none⟩)) hS0 ?_ ?_
  ·intro w' hSw
   go_simp
  try simp only [Go.Law.pz]
  refine Go.Law.tk 9 ⟨some 30, .fieldAddr 55 (.tmp 29) 1, _, _, _, _⟩ (v := .pointer (some ⟨t, 7, none⟩)) hS0 ?_ ?_
  ·intro w' hSw
   go_simp
  try simp only [Go.Law.pz]
  refine Go.Law.tk 10 ⟨some 31, .fieldAddr 50 (.tmp 30) 0, _, _, _, _⟩ (v := .pointer (some ⟨t, 7, none⟩)) hS0 ?_ ?_
  ·intro w' hSw
   go_simp
  try simp only [Go.Law.pz]
  refine Go.Law.tk 11 ⟨some 32, .load 22 (.tmp 31), _, _, _, _⟩ (v := .int .u64 a.now) hS0 ?_ ?_
  ·intro w' hSw
   obtain ⟨s1, s2, s3⟩ := hSw
   go_simp
  try simp only [Go.Law.pz]
  refine wpAnyH_ready (rs := [12]) (by kernel_rfl) (by simp) ?_
  refine AllReadyH.cons (o := ⟨some 33, .call { callee := .value (.func 29), args := #[.tmp 27, .tmp 32], argTypes := _ }, _, _, _, _⟩) rfl (fun K hK => ?_) AllReadyH.nil
  go_simp
  refine Calls.mono (refSweep a.now (HUS.out.now HB0.out) HRS.out (by omega) HSS.out) ?_
  rintro e w2 ⟨A1, c1, A2, c2, rfl, u2, k2, b2⟩
  have HB2 := Lib.hid (HB0.out.trans (b2.mono HB0.out.size))
  have HU2 := Lib.hid u2
  have HL2 := Lib.hid k2
  go_wp2_with fail
  refine hK.out _ _ (HKS.out _ (HB0.out.trans (b2.mono HB0.out.size))) (fun hS2 => ?_)
  clear hK K
  try simp only [Go.Law.pz]
  refine Go.Law.tk 13 ⟨some 20, .move (.tmp 33), _, _, _, _⟩ (v := .tuple #[.slice A1 (sweepB a.now (a.bk k)).length c1, .slice A2 (sweepC a.now (a.bk k)).length c2]) hS2 ?_ ?_
  ·intro w' hSw
   go_simp
  try simp only [Go.Law.pz]
  refine Go.Law.tk 14 ⟨some 34, .extract (.tmp 20) 0, _, _, _, _⟩ (v := .slice A1 (sweepB a.now (a.bk k)).length c1) hS2 ?_ ?_
  ·intro w' hSw
   go_simp
  try simp only [Go.Law.pz]
  refine Go.Law.tk 15 ⟨some 35, .extract (.tmp 20) 1, _, _, _, _⟩ (v := .slice A2 (sweepC a.now (a.bk k)).length c2) hS2 ?_ ?_
  ·intro w' hSw
   go_simp
  try simp only [Go.Law.pz]
  refine Go.Law.tk 16 ⟨some 5, .assign (.tmp 34), _, _, _, _⟩ (v := .slice A1 (sweepB a.now (a.bk k)).length c1) hS2 ?_ ?_
  ·intro w' hSw
   go_simp
  try simp only [Go.Law.pz]
  refine Go.Law.tk 17 ⟨some 6, .assign (.tmp 35), _, _, _, _⟩ (v := .slice A2 (sweepC a.now (a.bk k)).length c2) hS2 ?_ ?_
  ·intro w' hSw
   go_simp
  try simp only [Go.Law.pz]
  refine wpAnyH_done (by kernel_rfl) ?_ _
  have H2 := Lib.hid (H1.out.below HB2.out)
  have hsz2 := HB2.out.size
  clear hS0 hS2 u2 k2 b2 H1 HKS HUS l1 lb1
  have c3 : w2.cell? ⟨t, 10, none⟩ = some (.slice (some ⟨b, 0, none⟩) a.n cb) := H2.out.box.cell' rfl
  have l3 := H2.out.box.lt
  have lb3 := H2.out.core.brow.lt
  obtain ⟨A3, cc3, hab3, _⟩ := H2.out.core.bat k hk
  have cb3 : w2.cell? ⟨b, k, none⟩ = _ := H2.out.core.brow.cell' hab3
  have fb3 := H2.out.core.brow.frozen k
  have H3 := Lib.hid (H2.out.put (c := c1) hk HU2.out)
  have HLN := Lib.hid (HL2.out.keeps (Keeps.store (i := k) H2.out.core.brow (by decide) (.slice A1 (sweepB a.now (a.bk k)).length c1)))
  clear hab3
  go_upto_region 4 with (fail)
  generalize w2.setCell ⟨b, k, none⟩ (.slice A1 (sweepB a.now (a.bk k)).length c1) = w3 at *
  have c4 : w3.cell? ⟨t, 11, none⟩ = some (.slice (some ⟨f, 0, none⟩) a.n cf) := H3.out.1.box.cell' rfl
  have l4 := H3.out.1.box.lt
  have lf4 := H3.out.1.core.frow.lt
  have cf4 : w3.cell? ⟨f, k, none⟩ = some (.pointer (some ⟨r k, 0, none⟩)) := H3.out.1.core.frow.cell' (H3.out.1.core.fat k hk)
  go_wp2_with fail
  refine (rtell H3.out.1 hk hN (Door.sat a.seq 1) HLN.out HQU.out).mono ?_
  rintro e w4 ⟨rfl, Q', Rk', ps', hT4, hG4⟩
  have HZ := Lib.hid (And.intro hT4 (HG1.out.trans ((Gone.of_below HB2.out).trans (H3.out.2.trans hG4))))
  clear hT4 hG4
  go_wp2_with fail
  go_end0
  exact ⟨rfl, Q', HZ.out.1.tab, HZ.out.2⟩
 ·have HE : Hid (a.sweep s = a) := by show _ = _; unfold Mo.sweep; rw [if_neg hs]
  rw [HE.out]
  have c0 : w.cell? ⟨t, 10, none⟩ = some (.slice (some ⟨b, 0, none⟩) a.n cb) := h.box.cell' rfl
  have l0 := h.box.lt
  have H := Lib.hid h
  clear h ho
  by_cases h0 : s < 0
  ·have d0 : decide (s < 0) = true := by simpa using h0
   go_enter Tryz.func12, Tryz.ntmps12
   go_wp2_with fail
   refine bodyPost_ret (results_none rfl _ _ _) rfl ?_
   exact ⟨rfl, Q, H.out.tab, Gone.refl _ _⟩
  ·have d0 : decide (s < 0) = false := by simpa using h0
   have d1 : decide ((a.n : Int) ≤ s) = true := by simp; omega
   go_enter Tryz.func12, Tryz.ntmps12
   go_wp2_with fail
   refine bodyPost_ret (results_none rfl _ _ _) rfl ?_
   exact ⟨rfl, Q, H.out.tab, Gone.refl _ _⟩
end
end Mod
end Go.Proofs.YtohdlnefgieenaaGreat
