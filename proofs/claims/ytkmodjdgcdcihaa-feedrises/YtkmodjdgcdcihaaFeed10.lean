/-
  What the reference's (layer 9) Merge comes to.
-/
import Derived.Test.YtkmodjdgcdcihaaFeed09
import Derived.Test.YtkmodjdgcdcihaaLains
namespace Go.Law
theorem Lain.at {t : TypeId} {w : World} {A : Option Addr} {l : List (RowV Ev)} {i : Nat} (h : Lain t w A (l.flatMap cellsR)) (hi : i < l.length) : ∃ g off cs, A = some ⟨g, off, none⟩ ∧ Is w g t cs ∧ cs[off + i]? = some (.slice l[i].A l[i].xs.length l[i].c) := by
  have e : (l.flatMap cellsR)[i]? = some (.slice l[i].A l[i].xs.length l[i].c) := by
    have := rows_at cellsR (sz := 1) (fun _ => rfl) (List.getElem?_eq_getElem hi) (j := 0) (by decide)
    simpa [cellsR] using this
  obtain ⟨g, off, cs, hA, hi', hc⟩ := h (by intro h0; rw [h0] at e; simp at e)
  exact ⟨g, off, cs, hA, hi', hc i _ e⟩
theorem rows_set (l : List (RowV Ev)) (i : Nat) (q : RowV Ev) : (l.set i q).flatMap cellsR = (l.flatMap cellsR).set i (.slice q.A q.xs.length q.c) := by
  induction l generalizing i with
  | nil => simp
  | cons p r ih =>
    cases i with
    | zero => simp [cellsR]
    | succ i => simp [cellsR, ih]
theorem Lain.set {t : TypeId} {w : World} {g off : Nat} {l : List (RowV Ev)} {i : Nat} (h : Lain t w (some ⟨g, off, none⟩) (l.flatMap cellsR)) (q : RowV Ev) (hi : i < l.length) : Lain t (w.setCell ⟨g, off + i, none⟩ (.slice q.A q.xs.length q.c)) (some ⟨g, off, none⟩) ((l.set i q).flatMap cellsR) := fun _ => by
  obtain ⟨g', off', cs, hA, hi', hc⟩ := h (by intro h0; have := rows_length cellsR (sz := 1) (fun _ => rfl) l; rw [h0] at this; simp at this; omega)
  obtain ⟨rfl, rfl, _⟩ := by simpa using hA
  refine ⟨g, off, _, rfl, hi'.set _ _ rfl, fun j u hu => ?_⟩
  rw [rows_set, List.getElem?_set] at hu
  rw [Array.getElem?_setIfInBounds]
  by_cases e : i = j
  · subst e
    rw [if_pos rfl] at hu ⊢
    have hlt : i < (l.flatMap cellsR).length := by rw [rows_length cellsR (sz := 1) (fun _ => rfl)]; omega
    rw [if_pos hlt] at hu
    have hcs : off + i < cs.size := (Array.getElem?_eq_some_iff.1 (hc i _ (List.getElem?_eq_getElem hlt))).1
    rw [if_pos hcs]
    exact hu
  · rw [if_neg e] at hu
    rw [if_neg (by omega)]
    exact hc j u hu
theorem own_far {w : World} {base : Nat} {e t : TypeId} {size n : Nat} {v u : Value} {xs : List Value} {g i : Nat} {cs : Array Value} (h : w.ownsRow base e size v n xs) (hi : Is w g t cs) (ht : e ≠ t) : (w.setCell ⟨g, i, none⟩ u).ownsRow base e size v n xs :=
  (Law.Touch.store (T := fun k => k = g) w ⟨g, i, none⟩ u rfl).own h (fun _ hg e' => own_ne h hi ht (e' ▸ hg))
theorem all_pick {L L' : List (List Ev)} {e : Ev} (h : pick L = some (e, L')) : all L = e :: all L' := by
  have t := pick_total h
  unfold all
  rw [t, kway, h]
theorem all_none {L : List (List Ev)} (h : pick L = none) : all L = [] := kway_none h _
theorem mem_total {L : List (List Ev)} {r : List Ev} (h : r ∈ L) : r.length ≤ total L := by
  induction L with
  | nil => cases h
  | cons p q ih =>
    rw [total_cons]
    rcases List.mem_cons.1 h with rfl | h
    · omega
    · have := ih h; omega
/-- which one comes of the lists from i on -/
def Best (L : List (List Ev)) (i : Nat) : Option Nat → Prop
  | none => pick (L.drop i) = none
  | some j => i ≤ j ∧ ∃ x xs, L[j]? = some (x :: xs) ∧ pick (L.drop i) = some (x, (L.drop i).set (j - i) xs)
theorem best_end (L : List (List Ev)) : Best L L.length none := by
  show pick (L.drop L.length) = none
  rw [List.drop_length]; rfl
section
variable {L : List (List Ev)} {i : Nat}
theorem drop_cons (h : i < L.length) : L.drop i = L[i] :: L.drop (i + 1) := List.drop_eq_getElem_cons h
theorem best_empty {B : Option Nat} (hb : Best L (i + 1) B) (h : i < L.length) (he : L[i] = []) : Best L i B := by
  cases B with
  | none =>
    show pick _ = none
    have hb' : pick (L.drop (i + 1)) = none := hb
    rw [drop_cons h, he]
    simp [pick, hb']
  | some j =>
    obtain ⟨h1, x, xs, h2, h3⟩ := hb
    refine ⟨by omega, x, xs, h2, ?_⟩
    rw [drop_cons h, he, show j - i = (j - (i + 1)) + 1 by omega]
    simp [pick, h3]
theorem best_first {x : Ev} {xs : List Ev} (hb : Best L (i + 1) none) (h : i < L.length) (he : L[i] = x :: xs) : Best L i (some i) := by
  have hb' : pick (L.drop (i + 1)) = none := hb
  refine ⟨Nat.le_refl _, x, xs, by rw [List.getElem?_eq_getElem h, he], ?_⟩
  rw [drop_cons h, he, Nat.sub_self]
  simp [pick, hb']
theorem best_less {x y : Ev} {xs ys : List Ev} {j : Nat} (hb : Best L (i + 1) (some j)) (h : i < L.length) (he : L[i] = x :: xs) (hj : L[j]? = some (y :: ys)) (hl : x.sq ≤ y.sq) : Best L i (some i) := by
  obtain ⟨h1, x', xs', h2, h3⟩ := hb
  rw [hj] at h2
  obtain ⟨rfl, rfl⟩ := by simpa using h2
  refine ⟨Nat.le_refl _, x, xs, by rw [List.getElem?_eq_getElem h, he], ?_⟩
  rw [drop_cons h, he, Nat.sub_self]
  simp [pick, h3, hl]
theorem best_more {x y : Ev} {xs ys : List Ev} {j : Nat} (hb : Best L (i + 1) (some j)) (h : i < L.length) (he : L[i] = x :: xs) (hj : L[j]? = some (y :: ys)) (hl : ¬ x.sq ≤ y.sq) : Best L i (some j) := by
  obtain ⟨h1, x', xs', h2, h3⟩ := hb
  rw [hj] at h2
  obtain ⟨rfl, rfl⟩ := by simpa using h2
  refine ⟨by omega, _, _, hj, ?_⟩
  rw [drop_cons h, he, show j - i = (j - (i + 1)) + 1 by omega]
  simp [pick, h3, hl]
end
end Go.Law
namespace Go.Proofs.Ytkmodjdgcdcihaa
open Go.RowKit Go.Shelf
attribute [local go_sem] Oper.semAt_some
namespace Feed
open Go.Law
def encB : Option Nat → Int
  | none => -1
  | some j => (j : Int)
theorem elemR : ∃ i, Law.Elem Try.prog 53 29 i (.slice none 0 0) 1 24 := Law.Elem.of Try.underlying53 (by kernel_rfl) rfl (by decide)
theorem rows_one (l : List (RowV Ev)) : ∀ u ∈ l.flatMap cellsR, u.oneCell' = true := by
  intro u hu
  obtain ⟨q, _, hq⟩ := List.mem_flatMap.1 hu
  simp [cellsR] at hq
  subst hq
  rfl
theorem own_emptyR (w : World) {base : Nat} (e : TypeId) (hb : base ≤ w.heap.size) : (w.alloc (.cells #[] e)).ownsRow base e 1 (.slice (some ⟨w.heap.size, 0, none⟩) 0 0) 0 [] :=
  ⟨rfl, .inr ⟨w.heap.size, 0, #[], rfl, hb, heap_alloc_new w _, Nat.le_refl _, Nat.zero_le _, rfl, rfl⟩⟩
set_option maxRecDepth 100000 in
set_option maxHeartbeats 4000000 in
theorem refMerge (l : List (RowV Ev)) (A : Option Addr) (c : Nat) (w : World) (hR : Rows w A l) (ht : total (evs l) ≤ 500) (hl : l.length ≤ 1000) :
    Calls Try.prog 26 #[.slice A l.length c] w (Lists w (all (evs l))) := by
  obtain ⟨i1, hE1⟩ := elemR
  obtain ⟨i0, hE0⟩ := RingE.elem
  have HE := Lib.hid hE0
  have HE1 := Lib.hid hE1
  have HR := Lib.hid hR
  have HO := Lib.hid (own_emptyR w 29 (base := w.heap.size) (Nat.le_refl _))
  have HS1 := Lib.hid (hR.seq.alloc (Nat.le_refl _) (.cells #[] 29))
  clear hE0 hE1 hR
  go_enter Try.func26, Try.ntmps26
  go_wp2_with (at_builtin; refine Law.wpList_append_seq _ w.heap.size 53 rfl _ _ rfl HE1.out _ 0 [] rfl HO.out 0 w.heap.size A l.length c (l.flatMap cellsR) rfl (by rw [rows_len]; omega) HS1.out (rows_one _) (by unfold maxLen; omega) (by omega) (by simp) ?_; intro v1 w1 hown hgrow)
  have B1 : Below w.heap.size w w1 := ((Below.refl _ w).alloc (Nat.le_refl _) (.cells #[] 29)).grown hgrow (by simp) (fun k hk => by have h9 : w.heap.size = k := Option.some.inj hk; omega)
  have OW : w1.ownsRow w.heap.size 29 1 v1 l.length (l.flatMap cellsR) := by simpa using hown
  obtain ⟨D, cp, rfl, hcp⟩ := own_shape OW
  have HL1 := Lib.hid (Lain.own OW)
  have HG : Hid (∀ g, (Value.slice D l.length cp).ownBlock = some g → w.heap.size ≤ g) := fun g hg => (OW.lt g hg).1
  have HB1 := Lib.hid B1
  obtain ⟨n, hn⟩ : ∃ n, l.length = n := ⟨_, rfl⟩
  have HN := Lib.hid hn
  clear hown hgrow B1 OW HO HS1
  rw [hn] at hcp hl ⊢
  go_loopw [4] (fun vo wr => ∃ (R : List (RowV Ev)) (dn : List Ev), R.length = n ∧ Lain 29 wr D (R.flatMap cellsR) ∧ (∀ q ∈ R, Seq w 0 w.heap.size q.A (flatE q.xs) ∧ q.xs.length ≤ q.c) ∧ wr.ownsRow w.heap.size 58 8 vo dn.length (flatE dn) ∧ Below w.heap.size w wr ∧ all (evs l) = dn ++ all (evs R) ∧ dn.length + total (evs R) ≤ 500) (fun vo _ => 500 - slen vo)
  case atStart => exact ⟨l, [], HN.out, HL1.out, fun q hq => ⟨HR.out.row q hq, HR.out.cap q hq⟩, World.ownsRow_nil _ _ _ _, HB1.out, rfl, by simpa using ht⟩
  case round =>
    clear HL1 HB1 HR
    obtain ⟨R, dn, hRn, hLn, hRow, hOut, hBel, hAll, hTot⟩ := hrel
    have HLn := Lib.hid hLn
    have HRow := Lib.hid hRow
    have HOut := Lib.hid hOut
    have HBel := Lib.hid hBel
    have HAll := Lib.hid hAll
    have HRn := Lib.hid hRn
    have HTot := Lib.hid hTot
    have hdn : dn.length ≤ 500 := by omega
    obtain ⟨Dn, cdn, rfl, hcdn⟩ := own_shape hOut
    clear hLn hRow hOut hBel hAll hRn hTot
    have HEL : Hid ((evs R).length = n) := by show _ = _; rw [← HRn.out]; exact List.length_map ..
    go_wp2_with fail
    go_loopw [5, 6] (fun vb vi wx => ∃ (k : Nat) (B : Option Nat), k ≤ n ∧ vb = .int .i64 (encB B) ∧ vi = .int .i64 ((k : Int) - 1) ∧ Best (evs R) k B ∧ Lain 29 wx D (R.flatMap cellsR) ∧ wx.ownsRow w.heap.size 58 8 (.slice Dn dn.length cdn) dn.length (flatE dn) ∧ Below w.heap.size w wx) (fun _ vi _ => (intOf vi + 1).toNat)
    case atStart => exact ⟨n, none, Nat.le_refl _, rfl, rfl, by have := best_end (evs R); rw [HEL.out] at this; exact this, HLn.out, HOut.out, HBel.out⟩
    case round =>
      clear HLn HOut HBel
      obtain ⟨k, B, hk, rfl, rfl, hBest, hLn, hOut, hBel⟩ := hrel
      have HBest := Lib.hid hBest
      have HLn := Lib.hid hLn
      have HOut := Lib.hid hOut
      have HBel := Lib.hid hBel
      have szx := hBel.size
      clear hBest hLn hOut hBel
      cases k with
      | succ i =>
        rw [show (((i + 1 : Nat) : Int) - 1) = (i : Int) by omega]
        have hi : i < R.length := by have := HRn.out; omega
        have hiE : i < (evs R).length := by have := HEL.out; omega
        have hin : i < n := hk
        obtain ⟨g, off, cs, rfl, hIs, hcs⟩ := HLn.out.at hi
        have c0 : World.cell? _ ⟨g, off + i, none⟩ = some (.slice R[i].A R[i].xs.length R[i].c) := (hIs.cell _).trans hcs
        have lg := hIs.lt
        have HEI : Hid ((evs R)[i] = R[i].xs) := by show _ = _; simp [evs]
        have HRI := Lib.hid (HRow.out _ (List.getElem_mem hi))
        have d1 : decide ((0 : Int) ≤ (i : Int)) = true := by simp
        generalize hq : R[i] = q at *
        clear hIs hcs hq
        obtain ⟨qa, qc, qx⟩ := q
        simp only at c0 HEI HRI
        have hii : (i : Int) < (n : Int) := by omega
        cases qx with
        | nil =>
          have HNB := Lib.hid (best_empty HBest.out hiE HEI.out)
          simp only [List.length_nil] at c0
          go_wp2_with fail
          go_quiet (fail)
          go_wp2_with fail
          have hbq : Below (wr).heap.size wr (wr.drewN nq) := Law.below_drewN (Below.refl _ wr) nq
          have HL2 := Lib.hid (HLn.out.keeps (Keeps.drewN _ wr nq))
          have HO2 := Lib.hid (own_below HOut.out hbq)
          have HB2 := Lib.hid (Law.below_drewN HBel.out nq)
          clear hbq
          go_roundw
          case rel => exact ⟨i, B, by omega, rfl, by first | rfl | go_num, HNB.out, HL2.out, HO2.out, HB2.out⟩
          case measure => simp [intOf] <;> omega
        | cons x xs =>
          obtain ⟨ga, oa, rfl, _, hga, p0, p1, p2, p3, p4, p5, p6, p7⟩ := (HRI.out.1.below HBel.out).ev (i := 0) (by simp)
          simp only [List.getElem_cons_zero, Nat.zero_mul, Nat.add_zero] at p7
          clear p0 p1 p2 p3 p4 p5 p6
          simp only [List.length_cons] at c0
          have hx0 : (x :: xs).length ≤ total (evs R) := by rw [← HEI.out]; exact mem_total (List.getElem_mem hiE)
          have hx1 : xs.length ≤ 500 := by have h1 := HTot.out; simp at hx0; omega
          clear hx0
          cases B with
          | none =>
            have HNB := Lib.hid (best_first HBest.out hiE HEI.out)
            simp only [encB]
            go_wp2_with fail
            go_quiet (fail)
            go_wp2_with fail
            have hbq : Below (wr).heap.size wr (wr.drewN nq) := Law.below_drewN (Below.refl _ wr) nq
            have HL2 := Lib.hid (HLn.out.keeps (Keeps.drewN _ wr nq))
            have HO2 := Lib.hid (own_below HOut.out hbq)
            have HB2 := Lib.hid (Law.below_drewN HBel.out nq)
            clear hbq
            go_roundw
            case rel => exact ⟨i, some i, by omega, rfl, by first | rfl | go_num, HNB.out, HL2.out, HO2.out, HB2.out⟩
            case measure => simp [intOf] <;> omega
          | some j =>
            obtain ⟨hj1, y, ys, hj2, _⟩ := HBest.out
            have hjE : j < (evs R).length := (List.getElem?_eq_some_iff.1 hj2).1
            have hj : j < R.length := by have h1 := HEL.out; have h2 := HRn.out; omega
            have hjn : j < n := by have := HRn.out; omega
            have hji : (j : Int) < (n : Int) := by omega
            obtain ⟨g', off', cs', hg', hIs, hcs⟩ := HLn.out.at hj
            obtain ⟨rfl, rfl, _⟩ := by simpa using hg'
            have c1 : World.cell? _ ⟨g, off + j, none⟩ = some (.slice R[j].A R[j].xs.length R[j].c) := (hIs.cell _).trans hcs
            have h9 : (evs R)[j]? = some R[j].xs := by simp [evs, hj]
            have HEJ : Hid (R[j].xs = y :: ys) := Option.some.inj (h9.symm.trans hj2)
            clear h9
            have HRJ := Lib.hid (HRow.out _ (List.getElem_mem hj))
            generalize hq : R[j] = q at *
            clear hIs hcs hq hg'
            obtain ⟨ra, rc, rx⟩ := q
            simp only at c1 HEJ HRJ
            obtain rfl : rx = y :: ys := HEJ.out
            obtain ⟨gb, ob, rfl, _, hgb, q0, q1, q2, q3, q4, q5, q6, q7⟩ := (HRJ.out.1.below HBel.out).ev (i := 0) (by simp)
            simp only [List.getElem_cons_zero, Nat.zero_mul, Nat.add_zero] at q7
            clear q0 q1 q2 q3 q4 q5 q6
            simp only [List.length_cons] at c1
            have d2 : decide ((j : Int) < 0) = false := by simp
            simp only [encB]
            by_cases hle : x.sq ≤ y.sq
            · have HNB := Lib.hid (best_less HBest.out hiE HEI.out hj2 hle)
              have d3 : decide (x.sq ≤ y.sq) = true := by simpa using hle
              clear hj2
              go_wp2_with fail
              go_quiet (fail)
              go_wp2_with fail
              have hbq : Below (wr).heap.size wr (wr.drewN nq) := Law.below_drewN (Below.refl _ wr) nq
              have HL2 := Lib.hid (HLn.out.keeps (Keeps.drewN _ wr nq))
              have HO2 := Lib.hid (own_below HOut.out hbq)
              have HB2 := Lib.hid (Law.below_drewN HBel.out nq)
              clear hbq
              go_roundw
              case rel => exact ⟨i, some i, by omega, rfl, by first | rfl | go_num, HNB.out, HL2.out, HO2.out, HB2.out⟩
              case measure => simp [intOf] <;> omega
            · have HNB := Lib.hid (best_more HBest.out hiE HEI.out hj2 hle)
              have d3 : decide (x.sq ≤ y.sq) = false := by simpa using hle
              clear hj2
              go_wp2_with fail
              go_quiet (fail)
              go_wp2_with fail
              have hbq : Below (wr).heap.size wr (wr.drewN nq) := Law.below_drewN (Below.refl _ wr) nq
              have HL2 := Lib.hid (HLn.out.keeps (Keeps.drewN _ wr nq))
              have HO2 := Lib.hid (own_below HOut.out hbq)
              have HB2 := Lib.hid (Law.below_drewN HBel.out nq)
              clear hbq
              go_roundw
              case rel => exact ⟨i, some j, by omega, rfl, by first | rfl | go_num, HNB.out, HL2.out, HO2.out, HB2.out⟩
              case measure => simp [intOf] <;> omega
      | zero =>
        have d1 : decide ((0 : Int) ≤ ((0 : Nat) : Int) - 1) = false := by decide
        cases B with
        | none =>
          have HD : Hid (all (evs l) = dn) := by show _ = _; rw [HAll.out, all_none (show pick (evs R) = none from HBest.out)]; simp
          simp only [encB]
          go_wp2_with fail
          go_ret
          exact ⟨Dn, cdn, by rw [HD.out]; rfl, by rw [HD.out]; exact hcdn, by rw [HD.out]; exact Seq.own HOut.out, HBel.out⟩
        | some j =>
          obtain ⟨_, y, ys, hj2, hpk⟩ := HBest.out
          rw [List.drop_zero, Nat.sub_zero] at hpk
          have hjE : j < (evs R).length := (List.getElem?_eq_some_iff.1 hj2).1
          have hj : j < R.length := by have h1 := HEL.out; have h2 := HRn.out; omega
          have hjn : j < n := by have := HRn.out; omega
          have hji : (j : Int) < (n : Int) := by omega
          obtain ⟨g, off, cs, rfl, hIs, hcs⟩ := HLn.out.at hj
          have c1 : World.cell? _ ⟨g, off + j, none⟩ = some (.slice R[j].A R[j].xs.length R[j].c) := (hIs.cell _).trans hcs
          have f1 := hIs.frozen (off + j)
          have lg := hIs.lt
          have HIS := Lib.hid hIs
          have h9 : (evs R)[j]? = some R[j].xs := by simp [evs, hj]
          have HEJ : Hid (R[j].xs = y :: ys) := Option.some.inj (h9.symm.trans hj2)
          have HRJ := Lib.hid (HRow.out _ (List.getElem_mem hj))
          have HPK := Lib.hid hpk
          have HEQ : Hid ((evs R)[j] = y :: ys) := Option.some.inj ((List.getElem?_eq_getElem hjE).symm.trans hj2)
          have HCS0 := Lib.hid hcs
          clear h9 hj2 hpk hIs hcs
          obtain ⟨q, hq⟩ : ∃ q, R[j] = q := ⟨_, rfl⟩
          rw [hq] at c1 HEJ HRJ HCS0
          clear hq
          obtain ⟨ra, rc, rx⟩ := q
          simp only at c1 HEJ HRJ HCS0
          obtain rfl : rx = y :: ys := HEJ.out
          obtain ⟨gb, ob, rfl, _, hgb, q0, q1, q2, q3, q4, q5, q6, q7⟩ := (HRJ.out.1.below HBel.out).ev (i := 0) (by simp)
          have HCS : Hid (cs[off + j]? = some (.slice (some ⟨gb, ob, none⟩) (ys.length + 1) rc)) := HCS0.out
          simp only [List.getElem_cons_zero, Nat.zero_mul, Nat.add_zero] at q0 q1 q2 q3 q4 q5 q6 q7
          have lgb := Nat.lt_of_lt_of_le hgb szx
          simp only [List.length_cons] at c1
          have d2 : decide ((j : Int) < 0) = false := by simp
          simp only [encB]
          have HTL : Hid (Seq w 0 w.heap.size (if rc = 1 then some ⟨gb, ob, none⟩ else some ⟨gb, ob + 8, none⟩) (flatE ys)) := tail_if HRJ.out.1 (by simpa using HRJ.out.2)
          have HES : ∀ a k, Hid (evs (R.set j ⟨a, k, ys⟩) = (evs R).set j ys) := fun a k => by show _ = _; unfold evs; rw [List.map_set]
          have h1y : (1 : Int) ≤ (ys.length : Int) + 1 := by omega
          have hy1 : ys.length ≤ 500 := by have h1 := HTot.out; have h2 := pick_total HPK.out; have h3 := mem_total (L := evs R) (r := y :: ys) (by have h4 := List.getElem_mem hjE; rwa [show (evs R)[j] = y :: ys from HEQ.out] at h4); simp at h3; omega
          by_cases hc1 : rc = 1
          · have HES := HES (some ⟨gb, ob, none⟩) 0
            rw [if_pos hc1] at HTL
            go_wp2_with (at_builtin; refine wpList_append_own _ rfl _ _ 29 rfl w.heap.size 58 i0 (.agg #[.string ⟨#[]⟩, .int .i64 0, .int .i64 0, .int .i64 0, .int .i64 0, .int .i64 0, .int .i64 0, .int .u64 0]) 8 72 HE.out.ut HE.out.info HE.out.zero HE.out.sz HE.out.by_ HE.out.cells HE.out.pos _ _ _ rfl (HOut.out.alloc _) ⟨wr.heap.size, 0, none⟩ 1 1 (cellsE y) rfl rfl (new_E wr y _ rfl) (one_E y) (by unfold maxLen; omega) (by omega) (by simp; omega) ?_; intro v' w2 hown' hgrow _; obtain ⟨g', cap', rfl⟩ := ownsRow_succ hown'; have K2 : Keeps 29 wr w2 := (Keeps.alloc _).trans (Keeps.grown (HOut.out.alloc _) hgrow (by decide)); have HL2 := Lib.hid (HLn.out.keeps K2); have HO2 : Hid (w2.ownsRow w.heap.size 58 8 (.slice (some ⟨g', 0, none⟩) (dn.length + 1) cap') (dn.length + 1) (flatE dn ++ cellsE y)) := hown'; have HB2 := Lib.hid ((HBel.out.alloc szx _).grown hgrow (by simp; omega) (fun k hk => (HOut.out.lt k hk).1)); have I2 := K2.is HIS.out; have HI2 := Lib.hid I2; have c2 : w2.cell? ⟨g, off + j, none⟩ = some (.slice (some ⟨gb, ob, none⟩) (ys.length + 1) rc) := (I2.cell _).trans HCS.out; have f2 := I2.frozen (off + j); have lg2 := I2.lt; clear hown' hgrow K2 I2 c1 f1 lg)
            go_roundw
            case rel =>
              refine ⟨R.set j ⟨some ⟨gb, ob, none⟩, 0, ys⟩, dn ++ [y], by rw [List.length_set]; exact HRn.out, HL2.out.set ⟨some ⟨gb, ob, none⟩, 0, ys⟩ hj, ?_, ?_, HB2.out.setCell (HG.out g rfl) _, ?_, ?_⟩
              · intro q hq
                rcases List.mem_or_eq_of_mem_set hq with h | h
                · exact HRow.out q h
                · subst h; exact ⟨HTL.out, by have := HRJ.out.2; simp only [List.length_cons] at this; simp only; omega⟩
              · rw [flatE_snoc, List.length_append]; exact own_far HO2.out HI2.out (by decide)
              · rw [HAll.out, all_pick HPK.out, HES.out]; simp
              · have h1 := HTot.out; have h2 := pick_total HPK.out; rw [HES.out]; simp; omega
            case measure => simp [slen]; have h1 := HTot.out; have h2 := pick_total HPK.out; omega
          · have HES := HES (some ⟨gb, ob + 8, none⟩) (rc - 1)
            rw [if_neg hc1] at HTL
            go_wp2_with (at_builtin; refine wpList_append_own _ rfl _ _ 29 rfl w.heap.size 58 i0 (.agg #[.string ⟨#[]⟩, .int .i64 0, .int .i64 0, .int .i64 0, .int .i64 0, .int .i64 0, .int .i64 0, .int .u64 0]) 8 72 HE.out.ut HE.out.info HE.out.zero HE.out.sz HE.out.by_ HE.out.cells HE.out.pos _ _ _ rfl (HOut.out.alloc _) ⟨wr.heap.size, 0, none⟩ 1 1 (cellsE y) rfl rfl (new_E wr y _ rfl) (one_E y) (by unfold maxLen; omega) (by omega) (by simp; omega) ?_; intro v' w2 hown' hgrow _; obtain ⟨g', cap', rfl⟩ := ownsRow_succ hown'; have K2 : Keeps 29 wr w2 := (Keeps.alloc _).trans (Keeps.grown (HOut.out.alloc _) hgrow (by decide)); have HL2 := Lib.hid (HLn.out.keeps K2); have HO2 : Hid (w2.ownsRow w.heap.size 58 8 (.slice (some ⟨g', 0, none⟩) (dn.length + 1) cap') (dn.length + 1) (flatE dn ++ cellsE y)) := hown'; have HB2 := Lib.hid ((HBel.out.alloc szx _).grown hgrow (by simp; omega) (fun k hk => (HOut.out.lt k hk).1)); have I2 := K2.is HIS.out; have HI2 := Lib.hid I2; have c2 : w2.cell? ⟨g, off + j, none⟩ = some (.slice (some ⟨gb, ob, none⟩) (ys.length + 1) rc) := (I2.cell _).trans HCS.out; have f2 := I2.frozen (off + j); have lg2 := I2.lt; clear hown' hgrow K2 I2 c1 f1 lg)
            go_roundw
            case rel =>
              refine ⟨R.set j ⟨some ⟨gb, ob + 8, none⟩, rc - 1, ys⟩, dn ++ [y], by rw [List.length_set]; exact HRn.out, HL2.out.set ⟨some ⟨gb, ob + 8, none⟩, rc - 1, ys⟩ hj, ?_, ?_, HB2.out.setCell (HG.out g rfl) _, ?_, ?_⟩
              · intro q hq
                rcases List.mem_or_eq_of_mem_set hq with h | h
                · exact HRow.out q h
                · subst h; exact ⟨HTL.out, by have := HRJ.out.2; simp only [List.length_cons] at this; simp only; omega⟩
              · rw [flatE_snoc, List.length_append]; exact own_far HO2.out HI2.out (by decide)
              · rw [HAll.out, all_pick HPK.out, HES.out]; simp
              · have h1 := HTot.out; have h2 := pick_total HPK.out; rw [HES.out]; simp; omega
            case measure => simp [slen]; have h1 := HTot.out; have h2 := pick_total HPK.out; omega
end Feed
end Go.Proofs.Ytkmodjdgcdcihaa
