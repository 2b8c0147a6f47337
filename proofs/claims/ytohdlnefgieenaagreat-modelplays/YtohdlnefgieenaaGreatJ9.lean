/-
  What Beat and Clear (layer 6) come to.
-/
import Derived.Test.YtohdlnefgieenaaGreatJ8
import Derived.Test.YtohdlnefgieenaaGreatJ7
import Derived.RangeFuncBox
import Derived.Deep.QuietTactic
import Derived.BigQuiet
namespace Go.Law
theorem flatS_until (zs : List Sn) (i : Nat) (m : Int) (h : i < zs.length) : (flatS zs).toArray.setIfInBounds (i * 4 + 3) (.int .u64 m) = (flatS (zs.set i (zs[i].1, zs[i].2.1, zs[i].2.2.1, m))).toArray := by
 simp only [List.setIfInBounds_toArray]
 congr 1
 induction zs generalizing i with
 | nil => simp at h
 | cons p r ih =>
   cases i with
   | zero => simp [flatS_cons]
   | succ i =>
     have := ih i (by simpa using h)
     rw [List.set_cons_succ, flatS_cons, flatS_cons, show (i + 1) * 4 + 3 = i * 4 + 3 + 1 + 1 + 1 + 1 by omega]
     simp only [List.set_cons_succ, List.getElem_cons_succ, this]
end Go.Law
namespace Go.Proofs.YtohdlnefgieenaaGreat
open Go.RowKit
namespace Sess
open Go.Law

set_option maxRecDepth 100000 in
set_option maxHeartbeats 1600000 in
theorem beatNo (k u : Int) (zs : List Sn) (A : Option Addr) (c : Nat) (w : World) (hs : Seq w 0 w.heap.size A (flatS zs)) (hl : zs.length ≤ 900) (hh : hasS k zs = false) :
  Calls Tryz.prog 113 #[.slice A zs.length c, .int .i64 k, .int .u64 u] w (Listed2 w zs 3) := by
 have HS := Lib.hid hs
 rw [has_at] at hh
 have hat : atS k zs = zs.length := by have := atS_le k zs; simp at hh; omega
 clear hs
 go_enter Tryz.func113, Tryz.ntmps113
 go_wp2_with fail
 refine (copied zs A c w HS.out (by omega)).mono ?_
 rintro e w1 ⟨rfl, k1, b1⟩
 have K1 := Lib.hid k1
 have B1 := Lib.hid b1
 have lg := k1.lt
 clear k1 b1
 have hgw : Hid (w.heap.size ≤ w.heap.size) := Nat.le_refl _
 generalize hg : w.heap.size = g at K1 lg hgw ⊢
 go_wp2_with (go_at_call 125; refine (of_ _ _).mono ?_; rintro e w' ⟨rfl, rfl⟩)
 have b1a := (Below.refl w1.heap.size w1).alloc (Nat.le_refl _) (.cells #[.int .i64 k] 3)
 have K1a := K1.out.below b1a K1.out.lt
 refine (whereOf k w1.heap.size zs (some ⟨g, 0, none⟩) zs.length _ ((Is.new w1 3 #[.int .i64 k] rfl).cell' rfl) ((K1a.seqS.from_ (Nat.zero_le _)).more K1a.lt) (by unfold maxLen; omega)).mono ?_
 rintro e w2 ⟨rfl, b2⟩
 have b12 : Below w1.heap.size w1 w2 := b1a.trans (b2.mono (by simp))
 have K2 := Lib.hid (K1.out.below b12 K1.out.lt)
 have B2 := Lib.hid (B1.out.trans (b12.mono B1.out.size))
 have lk := K2.out.lt
 clear b1a K1a b2 b12 K1 B1
 rw [hat]
 clear hat
 go_wp2_with fail
 refine bodyPost_ret (v := .tuple #[.slice (some ⟨g, 0, none⟩) zs.length zs.length, .int .i64 3]) (by simp [results, Tryz.results113, go_sem]) rfl ?_
 exact ⟨some ⟨g, 0, none⟩, zs.length, rfl, K2.out.row (by omega) (by unfold maxLen; omega), B2.out⟩

set_option maxRecDepth 100000 in
set_option maxHeartbeats 1600000 in
theorem clearNo (k : Int) (zs : List Sn) (A : Option Addr) (c : Nat) (w : World) (hs : Seq w 0 w.heap.size A (flatS zs)) (hl : zs.length ≤ 900) (hh : hasS k zs = false) :
  Calls Tryz.prog 114 #[.slice A zs.length c, .int .i64 k] w (Listed2 w zs 3) := by
 have HS := Lib.hid hs
 rw [has_at] at hh
 have hat : atS k zs = zs.length := by have := atS_le k zs; simp at hh; omega
 clear hs
 go_enter Tryz.func114, Tryz.ntmps114
 go_wp2_with fail
 refine (copied zs A c w HS.out (by omega)).mono ?_
 rintro e w1 ⟨rfl, k1, b1⟩
 have K1 := Lib.hid k1
 have B1 := Lib.hid b1
 have lg := k1.lt
 clear k1 b1
 have hgw : Hid (w.heap.size ≤ w.heap.size) := Nat.le_refl _
 generalize hg : w.heap.size = g at K1 lg hgw ⊢
 go_wp2_with (go_at_call 125; refine (of_ _ _).mono ?_; rintro e w' ⟨rfl, rfl⟩)
 have b1a := (Below.refl w1.heap.size w1).alloc (Nat.le_refl _) (.cells #[.int .i64 k] 3)
 have K1a := K1.out.below b1a K1.out.lt
 refine (whereOf k w1.heap.size zs (some ⟨g, 0, none⟩) zs.length _ ((Is.new w1 3 #[.int .i64 k] rfl).cell' rfl) ((K1a.seqS.from_ (Nat.zero_le _)).more K1a.lt) (by unfold maxLen; omega)).mono ?_
 rintro e w2 ⟨rfl, b2⟩
 have b12 : Below w1.heap.size w1 w2 := b1a.trans (b2.mono (by simp))
 have K2 := Lib.hid (K1.out.below b12 K1.out.lt)
 have B2 := Lib.hid (B1.out.trans (b12.mono B1.out.size))
 have lk := K2.out.lt
 clear b1a K1a b2 b12 K1 B1
 rw [hat]
 clear hat
 go_wp2_with fail
 refine bodyPost_ret (v := .tuple #[.slice (some ⟨g, 0, none⟩) zs.length zs.length, .int .i64 3]) (by simp [results, Tryz.results114, go_sem]) rfl ?_
 exact ⟨some ⟨g, 0, none⟩, zs.length, rfl, K2.out.row (by omega) (by unfold maxLen; omega), B2.out⟩

set_option maxRecDepth 100000 in
set_option maxHeartbeats 1600000 in
theorem clearOne (k : Int) (zs : List Sn) (A : Option Addr) (c : Nat) (w : World) (hs : Seq w 0 w.heap.size A (flatS zs)) (hl : zs.length ≤ 900) (hu : Up zs) (hh : hasS k zs = true) :
  Calls Tryz.prog 114 #[.slice A zs.length c, .int .i64 k] w (Listed2 w (out k zs) 0) := by
 have HS := Lib.hid hs
 rw [has_at] at hh
 have hat : atS k zs < zs.length := by simpa using hh
 have HOut := Lib.hid (out_at k hu hat)
 clear hs
 go_enter Tryz.func114, Tryz.ntmps114
 go_wp2_with fail
 refine (copied zs A c w HS.out (by omega)).mono ?_
 rintro e w1 ⟨rfl, k1, b1⟩
 have K1 := Lib.hid k1
 have B1 := Lib.hid b1
 have lg := k1.lt
 clear k1 b1
 have hgw : Hid (w.heap.size ≤ w.heap.size) := Nat.le_refl _
 generalize hg : w.heap.size = g at K1 lg hgw ⊢
 go_wp2_with (go_at_call 125; refine (of_ _ _).mono ?_; rintro e w' ⟨rfl, rfl⟩)
 have b1a := (Below.refl w1.heap.size w1).alloc (Nat.le_refl _) (.cells #[.int .i64 k] 3)
 have K1a := K1.out.below b1a K1.out.lt
 refine (whereOf k w1.heap.size zs (some ⟨g, 0, none⟩) zs.length _ ((Is.new w1 3 #[.int .i64 k] rfl).cell' rfl) ((K1a.seqS.from_ (Nat.zero_le _)).more K1a.lt) (by unfold maxLen; omega)).mono ?_
 rintro e w2 ⟨rfl, b2⟩
 have b12 : Below w1.heap.size w1 w2 := b1a.trans (b2.mono (by simp))
 have K2 := Lib.hid (K1.out.below b12 K1.out.lt)
 have B2 := Lib.hid (B1.out.trans (b12.mono B1.out.size))
 have lk := K2.out.lt
 clear b1a K1a b2 b12 K1 B1
 generalize atS k zs = at_ at *
 have hne : ¬ (at_ = zs.length) := by omega
 go_wp2_with (go_at_call 128; refine (deleteAt zs at_ g w.heap.size w2 K2.out (by omega) (by omega) hat).mono ?_; rintro e w3 ⟨A3, c3, rfl, r3, b3⟩; have R3 := Lib.hid r3; have B3 := Lib.hid (B2.out.trans b3); clear r3 b3)
 refine bodyPost_ret (v := .tuple #[.slice A3 (zs.take at_ ++ zs.drop (at_ + 1)).length c3, .int .i64 0]) (by simp [results, Tryz.results114, go_sem]) rfl ?_
 exact ⟨A3, c3, by rw [HOut.out], by rw [HOut.out]; exact R3.out, B3.out⟩

set_option maxRecDepth 100000 in
set_option maxHeartbeats 1600000 in
theorem beatOne (k u : Int) (zs : List Sn) (A : Option Addr) (c : Nat) (w : World) (hs : Seq w 0 w.heap.size A (flatS zs)) (hl : zs.length ≤ 900) (hu : Up zs) (hh : hasS k zs = true) :
  Calls Tryz.prog 113 #[.slice A zs.length c, .int .i64 k, .int .u64 u] w (Listed2 w (beatS k u zs) 0) := by
 have HS := Lib.hid hs
 rw [has_at] at hh
 have hat : atS k zs < zs.length := by simpa using hh
 have HBt := Lib.hid (beat_at k u hu hat)
 have HKy := Lib.hid (at_get hat)
 clear hs
 go_enter Tryz.func113, Tryz.ntmps113
 go_wp2_with fail
 refine (copied zs A c w HS.out (by omega)).mono ?_
 rintro e w1 ⟨rfl, k1, b1⟩
 have K1 := Lib.hid k1
 have B1 := Lib.hid b1
 have lg := k1.lt
 clear k1 b1
 have hgw : Hid (w.heap.size ≤ w.heap.size) := Nat.le_refl _
 generalize hg : w.heap.size = g at K1 lg hgw ⊢
 go_wp2_with (go_at_call 125; refine (of_ _ _).mono ?_; rintro e w' ⟨rfl, rfl⟩)
 have b1a := (Below.refl w1.heap.size w1).alloc (Nat.le_refl _) (.cells #[.int .i64 k] 3)
 have K1a := K1.out.below b1a K1.out.lt
 refine (whereOf k w1.heap.size zs (some ⟨g, 0, none⟩) zs.length _ ((Is.new w1 3 #[.int .i64 k] rfl).cell' rfl) ((K1a.seqS.from_ (Nat.zero_le _)).more K1a.lt) (by unfold maxLen; omega)).mono ?_
 rintro e w2 ⟨rfl, b2⟩
 have b12 : Below w1.heap.size w1 w2 := b1a.trans (b2.mono (by simp))
 have K2 := Lib.hid (K1.out.below b12 K1.out.lt)
 have B2 := Lib.hid (B1.out.trans (b12.mono B1.out.size))
 have lk := K2.out.lt
 clear b1a K1a b2 b12 K1 B1
 generalize atS k zs = at_ at *
 have hne : ¬ (at_ = zs.length) := by omega
 obtain ⟨b', off', e', _, _, e0, e1, e2, e3⟩ := K2.out.seqS.ses hat
 obtain ⟨rfl, rfl⟩ : g = b' ∧ 0 = off' := by injection e' with e'; injection e' with e1 e2; exact ⟨e1, e2⟩
 rw [Nat.zero_add] at e0 e1 e2 e3
 clear e'
 have f3 := K2.out.frozen (at_ * 4 + 3)
 have HF : Hid (∀ m, m = max zs[at_].2.2.2 u → Is (w2.setCell ⟨g, at_ * 4 + 3, none⟩ (.int .u64 m)) g 138 (flatS (beatS k u zs)).toArray) := fun m hm => by
  have h1 := K2.out.set (at_ * 4 + 3) (.int .u64 m) (flatS_until zs at_ m hat)
  rw [HKy.out, hm] at h1
  rw [HBt.out, hm]
  exact h1
 have hbl := beat_length k u zs
 have HBL := Lib.hid hbl
 clear hbl
 go_wp2_with fail
 all_goals
  refine bodyPost_ret (v := .tuple #[.slice (some ⟨g, 0, none⟩) zs.length zs.length, .int .i64 0]) (by simp [results, Tryz.results113, go_sem]) rfl ?_
  refine ⟨some ⟨g, 0, none⟩, zs.length, by rw [HBL.out], ?_, B2.out.setCell (p := ⟨g, at_ * 4 + 3, none⟩) (by simp; omega) _⟩
  have h5 := fun m hm => (HF.out m hm).row (base := w.heap.size) (by omega) (by rw [HBL.out]; unfold maxLen; omega)
  show World.ownsRow _ _ _ _ _ _ _
  rw [HBL.out] at h5 ⊢
  exact h5 _ (by omega)
end Sess
end Go.Proofs.YtohdlnefgieenaaGreat
namespace Go.Law
theorem out_snoc (k : Int) (xs : List Sn) (q : Sn) : out k (xs ++ [q]) = if q.1 = k then out k xs else out k xs ++ [q] := by
 unfold out outK
 rw [List.filter_append]
 by_cases h : q.1 = k
 ·rw [if_pos h, List.filter_cons_of_neg (by simp [h])]; simp
 ·rw [if_neg h, List.filter_cons_of_pos (by simpa using h)]; rfl
theorem out_length_le (k : Int) (l : List Sn) : (out k l).length ≤ l.length := outK_length k l
theorem out_no {k : Int} {l : List Sn} {q : Sn} (h : q ∈ out k l) : q.1 ≠ k := by simpa using (List.mem_filter.1 h).2
theorem beat_snoc (k u : Int) (xs : List Sn) (q : Sn) : beatS k u (xs ++ [q]) = beatS k u xs ++ [beat1 k u q] := by simp [beatS]
theorem put_over (s : Sn) : ∀ {xs ys : List Sn}, (∀ p ∈ xs, p.1 < s.1) → put s (xs ++ ys) = xs ++ put s ys
 | [], _, _ => rfl
 | p :: r, ys, h => by
   have h1 := h p (by simp)
   rw [List.cons_append, put_cons, if_neg (by omega), if_pos h1, put_over s fun q hq => h q (by simp [hq])]; rfl
theorem put_end (s : Sn) {xs : List Sn} (h : ∀ p ∈ xs, p.1 < s.1) : put s xs = xs ++ [s] := by
 have := put_over s (ys := []) h
 simpa [put, putK] using this
theorem put_snoc (s : Sn) {x : Sn} : ∀ {xs : List Sn}, Up (xs ++ [x]) → (∃ q ∈ xs, s.1 < q.1) → put s (xs ++ [x]) = put s xs ++ [x]
 | [], _, h => by obtain ⟨q, hq, _⟩ := h; cases hq
 | p :: r, hr, h => by
   rw [List.cons_append, put_cons, put_cons]
   split
   ·rfl
   ·rename_i h1
    split
    ·rename_i h2
     obtain ⟨q, hq, hk⟩ := h
     rcases List.mem_cons.1 hq with rfl | hq
     ·exact absurd hk h1
     ·rw [put_snoc s hr.tail ⟨q, hq, hk⟩]; rfl
    ·rfl
theorem put_out (s : Sn) : ∀ {l : List Sn}, Up l → put s (out s.1 l) = put s l
 | [], _ => rfl
 | p :: r, h => by
   have ih := put_out s h.tail
   rcases Int.lt_trichotomy s.1 p.1 with e | e | e
   ·have h1 : out s.1 (p :: r) = p :: r := out_none (by
     rw [Bool.eq_false_iff]; intro h'
     obtain ⟨q, hq, e'⟩ := has_mem h'
     rcases List.mem_cons.1 hq with rfl | hq
     ·omega
     ·have : p.1 < q.1 := h.head q hq
      omega)
    rw [h1]
   ·have h1 : out s.1 (p :: r) = r := by
     have h2 : out s.1 (p :: r) = out s.1 r := by unfold out outK; rw [List.filter_cons_of_neg (by simp [e])]
     rw [h2]
     exact out_none (by
      rw [Bool.eq_false_iff]; intro h'
      have := Up.lt_has h h'
      omega)
    rw [h1, put_cons, if_neg (by omega), if_neg (by omega)]
    cases r with
    | nil => rfl
    | cons q r => rw [put_cons, if_pos (by have : p.1 < q.1 := h.head q (by simp); omega)]
   ·have h1 : out s.1 (p :: r) = p :: out s.1 r := by unfold out outK; rw [List.filter_cons_of_pos (by simp; omega)]
    rw [h1, put_cons, if_neg (by omega), if_pos e, ih, put_cons, if_neg (by omega), if_pos e]
end Go.Law
namespace Go.Proofs.YtohdlnefgieenaaGreat
open Go.RowKit
namespace Sess
open Go.Law

set_option maxRecDepth 100000 in
set_option maxHeartbeats 800000 in
theorem refHas (k : Int) (zs : List Sn) (A : Option Addr) (c : Nat) (w : World) (hs : Seq w 0 w.heap.size A (flatS zs)) (hl : zs.length ≤ 1000) :
  Calls Tryz.prog 65 #[.slice A zs.length c, .int .i64 k] w fun e w' => e = .returned (.bool (hasS k zs)) ∧ w = w' := by
 have HS := Lib.hid hs
 clear hs
 go_enter Tryz.func65, Tryz.ntmps65
 go_wp2_with fail
 go_loop [5] (fun i => ∃ j : Nat, j ≤ zs.length ∧ i = .int .i64 j ∧ hasS k (zs.take j) = false) (fun i => zs.length - (intOf i).toNat)
 case atStart => exact ⟨0, Nat.zero_le _, rfl, rfl⟩
 case round =>
  obtain ⟨j, hj, rfl, hno⟩ := hrel
  have HNo := Lib.hid hno
  clear hno
  by_cases hlt : j < zs.length
  ·obtain ⟨b, off, rfl, _, hb, q0, _, _, _⟩ := HS.out.ses hlt
   have HT := Lib.hid (List.take_succ_eq_append_getElem hlt)
   have HN : Hid (hasS k (zs.take (j + 1)) = (hasS k (zs.take j) || zs[j].1 == k)) := by show _ = _; rw [HT.out]; simp only [hasS, List.any_append, List.any_cons, List.any_nil, Bool.or_false]
   have HY : Hid (zs[j].1 = k → hasS k zs = true) := fun e => has_of (List.getElem_mem hlt) e
   generalize zs[j].1 = x at *
   by_cases hx : x = k
   ·have HY' := Lib.hid (HY.out hx)
    subst hx
    go_wp2_with fail
    go_ret
    exact ⟨by rw [HY'.out]; rfl, rfl⟩
   ·have d : (x == k) = false := by simpa using hx
    go_wp2_with fail
    go_round
    case rel => exact ⟨j + 1, by omega, by go_num, by rw [HN.out, HNo.out, d]; rfl⟩
    case measure => simp [intOf]; omega
  ·rw [List.take_of_length_le (by omega)] at HNo
   go_wp2_with fail
   go_ret
   exact ⟨by rw [HNo.out]; rfl, rfl⟩

set_option maxRecDepth 100000 in
set_option maxHeartbeats 1600000 in
theorem refPurge (now : Int) (zs : List Sn) (A : Option Addr) (c : Nat) (w : World) (hs : Seq w 0 w.heap.size A (flatS zs)) (hl : zs.length ≤ 900) :
  Calls Tryz.prog 59 #[.slice A zs.length c, .int .u64 now] w (Listed w w.heap.size (live now zs)) := by
 obtain ⟨i0, hE⟩ := elem
 have HE := Lib.hid hE
 have HS := Lib.hid hs
 clear hE hs
 go_enter Tryz.func59, Tryz.ntmps59
 go_wp2_with fail
 go_loopw [5, 6] (fun v i wr => ∃ j : Nat, j ≤ zs.length ∧ i = .int .i64 j ∧ Row wr w.heap.size v (live now (zs.take j)) ∧ Below w.heap.size w wr) (fun _ i _ => zs.length - (intOf i).toNat)
 case atStart => exact ⟨0, Nat.zero_le _, rfl, World.ownsRow_nil _ _ _ _, Below.refl _ _⟩
 case round =>
  obtain ⟨j, hj, rfl, hown, hB⟩ := hrel
  have HO := Lib.hid hown
  have HB := Lib.hid hB
  have hol := live_length now (zs.take j)
  have hol2 : (live now (zs.take j)).length ≤ 900 := by simp at hol; omega
  have sb := hB.size
  clear hown hB hol
  by_cases hlt : j < zs.length
  ·obtain ⟨b, off, rfl, _, hb, q0, q1, q2, q3⟩ := (HS.out.below HB.out).ses hlt
   have HT := Lib.hid (List.take_succ_eq_append_getElem hlt)
   have HT2 : Hid (live now (zs.take (j + 1)) = if now < zs[j].2.2.2 then live now (zs.take j) ++ [zs[j]] else live now (zs.take j)) := by show _ = _; rw [HT.out, live_snoc]
   clear HT
   have lb : b < wr.heap.size := by omega
   generalize live now (zs.take j) = os at *
   generalize hq : zs[j] = q at *
   obtain ⟨x0, x1, x2, x3⟩ := q
   simp only at q0 q1 q2 q3 HT2
   by_cases hk : now < x3
   ·have d1 : decide (now < x3) = true := by simpa using hk
    go_wp2_with (at_builtin; refine wpList_append_own _ rfl _ _ 105 rfl (w.heap.size) 138 i0 (.agg #[.int .i64 0, .int .i64 0, .int .i64 0, .int .u64 0]) 4 32 HE.out.ut HE.out.info HE.out.zero HE.out.sz HE.out.by_ HE.out.cells HE.out.pos _ _ _ rfl (HO.out.alloc _) ⟨wr.heap.size, 0, none⟩ 1 1 (Law.cellsS (x0, x1, x2, x3)) rfl rfl (Law.new_fourAt _ (x0, x1, x2, x3) _ (by simp)) (Law.four_one _) (by unfold maxLen; omega) (by omega) (by simp; omega) ?_)
    intro v' w2 hown2 hgrow _
    have B2 := Lib.hid ((HB.out.alloc sb (.cells #[.int .i64 x0, .int .i64 x1, .int .i64 x2, .int .u64 x3] 138)).grown hgrow (by simp; omega) (fun g hg => (HO.out.lt g hg).1))
    have HO2 : Hid (Row w2 w.heap.size v' (os ++ [(x0, x1, x2, x3)])) := by
     show World.ownsRow _ _ _ _ _ _ _
     rw [flatS_snoc]
     simpa using hown2
    obtain ⟨g', cap', rfl⟩ := ownsRow_succ hown2
    clear hown2 hgrow
    go_wp2_with fail
    go_roundw
    case rel => exact ⟨j + 1, by omega, by go_num, by rw [HT2.out, if_pos (by omega)]; exact HO2.out, B2.out⟩
    case measure => simp [intOf]; omega
   ·have d1 : decide (now < x3) = false := by simpa using hk
    go_wp2_with fail
    go_roundw
    case rel => exact ⟨j + 1, by omega, by go_num, by rw [HT2.out, if_neg (by omega)]; exact HO.out, HB.out⟩
    case measure => simp [intOf]; omega
  ·have e1 : zs.take j = zs := List.take_of_length_le (by omega)
   rw [e1] at HO
   obtain ⟨A1, c1, rfl, _⟩ := own_shape HO.out
   go_wp2_with fail
   go_ret
   exact ⟨A1, c1, rfl, HO.out, HB.out⟩

set_option maxRecDepth 100000 in
set_option maxHeartbeats 1600000 in
theorem refClear (k : Int) (zs : List Sn) (A : Option Addr) (c : Nat) (w : World) (hs : Seq w 0 w.heap.size A (flatS zs)) (hl : zs.length ≤ 900) :
  Calls Tryz.prog 66 #[.slice A zs.length c, .int .i64 k] w (Listed w w.heap.size (out k zs)) := by
 obtain ⟨i0, hE⟩ := elem
 have HE := Lib.hid hE
 have HS := Lib.hid hs
 clear hE hs
 go_enter Tryz.func66, Tryz.ntmps66
 go_wp2_with fail
 go_loopw [5, 6] (fun v i wr => ∃ j : Nat, j ≤ zs.length ∧ i = .int .i64 j ∧ Row wr w.heap.size v (out k (zs.take j)) ∧ Below w.heap.size w wr) (fun _ i _ => zs.length - (intOf i).toNat)
 case atStart => exact ⟨0, Nat.zero_le _, rfl, World.ownsRow_nil _ _ _ _, Below.refl _ _⟩
 case round =>
  obtain ⟨j, hj, rfl, hown, hB⟩ := hrel
  have HO := Lib.hid hown
  have HB := Lib.hid hB
  have hol := out_length_le k (zs.take j)
  have hol2 : (out k (zs.take j)).length ≤ 900 := by simp at hol; omega
  have sb := hB.size
  clear hown hB hol
  by_cases hlt : j < zs.length
  ·obtain ⟨b, off, rfl, _, hb, q0, q1, q2, q3⟩ := (HS.out.below HB.out).ses hlt
   have HT := Lib.hid (List.take_succ_eq_append_getElem hlt)
   have HT2 : Hid (out k (zs.take (j + 1)) = if zs[j].1 = k then out k (zs.take j) else out k (zs.take j) ++ [zs[j]]) := by show _ = _; rw [HT.out, out_snoc]
   clear HT
   have lb : b < wr.heap.size := by omega
   generalize out k (zs.take j) = os at *
   generalize hq : zs[j] = q at *
   obtain ⟨x0, x1, x2, x3⟩ := q
   simp only at q0 q1 q2 q3 HT2
   by_cases hk : ¬ (x0 = k)
   ·have d1 : (x0 == k) = false := by simpa using hk
    go_wp2_with (at_builtin; refine wpList_append_own _ rfl _ _ 105 rfl (w.heap.size) 138 i0 (.agg #[.int .i64 0, .int .i64 0, .int .i64 0, .int .u64 0]) 4 32 HE.out.ut HE.out.info HE.out.zero HE.out.sz HE.out.by_ HE.out.cells HE.out.pos _ _ _ rfl (HO.out.alloc _) ⟨wr.heap.size, 0, none⟩ 1 1 (Law.cellsS (x0, x1, x2, x3)) rfl rfl (Law.new_fourAt _ (x0, x1, x2, x3) _ (by simp)) (Law.four_one _) (by unfold maxLen; omega) (by omega) (by simp; omega) ?_)
    intro v' w2 hown2 hgrow _
    have B2 := Lib.hid ((HB.out.alloc sb (.cells #[.int .i64 x0, .int .i64 x1, .int .i64 x2, .int .u64 x3] 138)).grown hgrow (by simp; omega) (fun g hg => (HO.out.lt g hg).1))
    have HO2 : Hid (Row w2 w.heap.size v' (os ++ [(x0, x1, x2, x3)])) := by
     show World.ownsRow _ _ _ _ _ _ _
     rw [flatS_snoc]
     simpa using hown2
    obtain ⟨g', cap', rfl⟩ := ownsRow_succ hown2
    clear hown2 hgrow
    go_wp2_with fail
    go_roundw
    case rel => exact ⟨j + 1, by omega, by go_num, by rw [HT2.out, if_neg (by omega)]; exact HO2.out, B2.out⟩
    case measure => simp [intOf]; omega
   ·have hk' : x0 = k := Classical.byContradiction hk
    have d1 : (x0 == k) = true := by simpa using hk'
    go_wp2_with fail
    go_roundw
    case rel => exact ⟨j + 1, by omega, by go_num, by rw [HT2.out, if_pos (by omega)]; exact HO.out, HB.out⟩
    case measure => simp [intOf]; omega
  ·have e1 : zs.take j = zs := List.take_of_length_le (by omega)
   rw [e1] at HO
   obtain ⟨A1, c1, rfl, _⟩ := own_shape HO.out
   go_wp2_with fail
   go_ret
   exact ⟨A1, c1, rfl, HO.out, HB.out⟩
end Sess
end Go.Proofs.YtohdlnefgieenaaGreat
namespace Go.Proofs.YtohdlnefgieenaaGreat
open Go.RowKit
namespace Sess
open Go.Law

set_option maxRecDepth 100000 in
set_option maxHeartbeats 800000 in
theorem refSetFull (s : Sn) (most : Int) (zs : List Sn) (A : Option Addr) (c : Nat) (w : World) (hs : Seq w 0 w.heap.size A (flatS zs)) (hl : zs.length ≤ 900) (hh : hasS s.1 zs = false) (hm : most ≤ (zs.length : Int)) :
  Calls Tryz.prog 63 #[.slice A zs.length c, V s, .int .i64 most] w fun e w' => e = .returned (.tuple #[.slice A zs.length c, .int .i64 2]) ∧ Below w.heap.size w w' := by
 have HS := Lib.hid hs
 obtain ⟨x0, x1, x2, x3⟩ := s
 simp only at hh
 unfold V
 clear hs
 have B0 := (Below.refl w.heap.size w).alloc (Nat.le_refl _) (.cells #[.int .i64 x0, .int .i64 x1, .int .i64 x2, .int .u64 x3] 138)
 go_enter Tryz.func63, Tryz.ntmps63
 go_wp2_with fail
 refine (refHas x0 zs A c _ ((HS.out.below B0).more B0.size) (by omega)).mono ?_
 rintro e w1 ⟨rfl, rfl⟩
 rw [hh]
 have HB := Lib.hid B0
 clear B0 hh
 go_wp2_with fail
 exact bodyPost_ret (v := .tuple #[.slice A zs.length c, .int .i64 2]) (by simp [results, Tryz.results63, go_sem]) rfl ⟨rfl, HB.out⟩

set_option maxRecDepth 100000 in
set_option maxHeartbeats 3200000 in
theorem refSetPut (s : Sn) (most : Int) (zs : List Sn) (A : Option Addr) (c : Nat) (w : World) (hs : Seq w 0 w.heap.size A (flatS zs)) (hl : zs.length ≤ 900) (hu : Up zs) (b : Bool) (hh : hasS s.1 zs = b) (hm : b = true ∨ (zs.length : Int) < most) :
  Calls Tryz.prog 63 #[.slice A zs.length c, V s, .int .i64 most] w (Listed2 w (put s zs) 0) := by
 obtain ⟨i0, hE⟩ := elem
 have HE := Lib.hid hE
 have HS := Lib.hid hs
 have HP := Lib.hid (put_out s hu)
 have HR := Lib.hid (out_up s.1 hu)
 have HN := Lib.hid (fun q (h : q ∈ out s.1 zs) => out_no h)
 have hol := out_length_le s.1 zs
 obtain ⟨x0, x1, x2, x3⟩ := s
 simp only at hh HP HR HN hol
 unfold V
 clear hs hE hu
 have HM := Lib.hid hm
 have B0 := (Below.refl w.heap.size w).alloc (Nat.le_refl _) (.cells #[.int .i64 x0, .int .i64 x1, .int .i64 x2, .int .u64 x3] 138)
 have I0 : Is (w.alloc (.cells #[.int .i64 x0, .int .i64 x1, .int .i64 x2, .int .u64 x3] 138)) w.heap.size 138 #[.int .i64 x0, .int .i64 x1, .int .i64 x2, .int .u64 x3] := Is.new _ _ _ rfl
 clear hm
 go_enter Tryz.func63, Tryz.ntmps63
 go_wp2_with fail
 generalize w.alloc (.cells #[.int .i64 x0, .int .i64 x1, .int .i64 x2, .int .u64 x3] 138) = w0 at *
 refine (refHas x0 zs A c _ ((HS.out.below B0).more B0.size) (by omega)).mono ?_
 rintro e w1 ⟨rfl, rfl⟩
 rw [hh]
 have H0 := Lib.hid ((HS.out.below B0).more B0.size)
 have HB0 := Lib.hid B0
 have c0 : w0.cell? ⟨w.heap.size, 0, none⟩ = some (.int .i64 x0) := I0.cell' rfl
 have HI0 := Lib.hid I0
 have l0 := I0.lt
 have sb0 := B0.size
 clear B0 hh I0 HS
 have HC : Hid (∀ Q : Ending → World → Prop, (∀ e w', Listed w0 w0.heap.size (out x0 zs) e w' → Q e w') → Calls Tryz.prog 66 #[.slice A zs.length c, .int .i64 x0] w0 Q) := fun Q h => (refClear x0 zs A c w0 H0.out hl).mono h
 have HX : Hid (b = true ∨ b = false ∧ (zs.length : Int) < most) := by
  rcases HM.out with h | h
  ·exact .inl h
  ·cases b
   ·exact .inr ⟨rfl, h⟩
   ·exact .inl rfl
 clear HM
 rcases HX.out with rfl | ⟨rfl, hm⟩
 all_goals
  go_wp2_with fail
  refine HC.out _ ?_
  rintro e w1 ⟨A1, c1, rfl, r1, b1⟩
  have HS1 := Lib.hid ((Seq.own r1).from_ (Nat.zero_le _))
  have sb1 := b1.size
  have HB1 := Lib.hid (HB0.out.trans (b1.mono HB0.out.size))
  have HI1 := Lib.hid (HI0.out.below b1 l0)
  have l1 := HI1.out.lt
  clear r1 b1 c0
  generalize out x0 zs = rs at *
  have hrl : rs.length ≤ 900 := by omega
  go_wp2_with fail
  go_loopw [8, 9, 11] (fun o p i wr => ∃ (j : Nat) (pt : Bool), j ≤ rs.length ∧ i = .int .i64 j ∧ p = .bool pt ∧ Below w1.heap.size w1 wr ∧
   ((pt = false ∧ (∀ q ∈ rs.take j, q.1 < x0) ∧ Row wr w1.heap.size o (rs.take j)) ∨
    (pt = true ∧ (∃ q ∈ rs.take j, x0 < q.1) ∧ Row wr w1.heap.size o (put (x0, x1, x2, x3) (rs.take j))))) (fun _ _ i _ => rs.length - (intOf i).toNat)
  case atStart => exact ⟨0, false, Nat.zero_le _, rfl, rfl, Below.refl _ _, .inl ⟨rfl, by simp, World.ownsRow_nil _ _ _ _⟩⟩
  case round =>
   obtain ⟨j, pt, hj, rfl, rfl, hB, hO⟩ := hrel
   have HB := Lib.hid hB
   have sb := hB.size
   have hI := HI1.out.below hB l1
   have c0 : wr.cell? ⟨w.heap.size, 0, none⟩ = some (.int .i64 x0) := hI.cell' rfl
   have c1 : wr.cell? ⟨w.heap.size, 1, none⟩ = some (.int .i64 x1) := hI.cell' rfl
   have c2 : wr.cell? ⟨w.heap.size, 2, none⟩ = some (.int .i64 x2) := hI.cell' rfl
   have c3 : wr.cell? ⟨w.heap.size, 3, none⟩ = some (.int .u64 x3) := hI.cell' rfl
   have lr := hI.lt
   clear hB hI
   by_cases hlt : j < rs.length
   ·obtain ⟨bb, off, rfl, _, hb, q00, q11, q22, q33⟩ := HS1.out.ses hlt
    have HT := Lib.hid (List.take_succ_eq_append_getElem hlt)
    have hno := HN.out _ (List.getElem_mem hlt)
    have HRT : Hid (Up (rs.take (j + 1))) := List.Pairwise.sublist (List.take_sublist _ _) HR.out
    rw [HT.out] at HRT
    have htl : (rs.take j).length ≤ 900 := by simp; omega
    generalize rs.take j = ts at *
    generalize hq : rs[j] = q at *
    obtain ⟨y0, y1, y2, y3⟩ := q
    simp only at q00 q11 q22 q33 hno
    have q0 := (HB.out.cell (p := ⟨bb, off + j * 4, none⟩) hb).trans q00
    have q1 := (HB.out.cell (p := ⟨bb, off + j * 4 + 1, none⟩) hb).trans q11
    have q2 := (HB.out.cell (p := ⟨bb, off + j * 4 + 2, none⟩) hb).trans q22
    have q3 := (HB.out.cell (p := ⟨bb, off + j * 4 + 3, none⟩) hb).trans q33
    have lb : bb < wr.heap.size := by omega
    have hpl := put_le (x0, x1, x2, x3) ts
    have HN' := Lib.hid hno
    clear hno
    rcases hO with ⟨rfl, hless, hown⟩ | ⟨rfl, hmore, hown⟩
    ·have HO := Lib.hid hown
     have HL := Lib.hid hless
     clear hown hless
     by_cases hx : x0 < y0
     ·have d1 : decide (x0 < y0) = true := by simpa using hx
      have HQ : Hid (put (x0, x1, x2, x3) (ts ++ [(y0, y1, y2, y3)]) = ts ++ [(x0, x1, x2, x3)] ++ [(y0, y1, y2, y3)]) := by show _ = _; rw [put_over (x0, x1, x2, x3) HL.out, put_cons, if_pos (by exact hx)]; simp
      go_wp2_with fail
      go_quiet (fail)
      have HBq := Lib.hid (below_drewN HB.out nq)
      have HOq : Hid (Row (wr.drewN nq) w1.heap.size u8 ts) := own_drewN HO.out nq
      have c0' : (wr.drewN nq).cell? ⟨w.heap.size, 0, none⟩ = some (.int .i64 x0) := c0
      have c1' : (wr.drewN nq).cell? ⟨w.heap.size, 1, none⟩ = some (.int .i64 x1) := c1
      have c2' : (wr.drewN nq).cell? ⟨w.heap.size, 2, none⟩ = some (.int .i64 x2) := c2
      have c3' : (wr.drewN nq).cell? ⟨w.heap.size, 3, none⟩ = some (.int .u64 x3) := c3
      have q0' : (wr.drewN nq).cell? ⟨bb, off + j * 4, none⟩ = some (.int .i64 y0) := q0
      have q1' : (wr.drewN nq).cell? ⟨bb, off + j * 4 + 1, none⟩ = some (.int .i64 y1) := q1
      have q2' : (wr.drewN nq).cell? ⟨bb, off + j * 4 + 2, none⟩ = some (.int .i64 y2) := q2
      have q3' : (wr.drewN nq).cell? ⟨bb, off + j * 4 + 3, none⟩ = some (.int .u64 y3) := q3
      have lrq : w.heap.size < (wr.drewN nq).heap.size := lr
      have lbq : bb < (wr.drewN nq).heap.size := lb
      have sbq : w1.heap.size ≤ (wr.drewN nq).heap.size := sb
      clear c0 c1 c2 c3 q0 q1 q2 q3 lr lb sb HB HO
      generalize wr.drewN nq = wq at *
      go_wp2_with (at_builtin; refine wpList_append_own _ rfl _ _ 105 rfl (w1.heap.size) 138 i0 (.agg #[.int .i64 0, .int .i64 0, .int .i64 0, .int .u64 0]) 4 32 HE.out.ut HE.out.info HE.out.zero HE.out.sz HE.out.by_ HE.out.cells HE.out.pos _ _ _ rfl (HOq.out.alloc _) ⟨wq.heap.size, 0, none⟩ 1 1 (Law.cellsS (x0, x1, x2, x3)) rfl rfl (Law.new_fourAt _ (x0, x1, x2, x3) _ (by simp)) (Law.four_one _) (by unfold maxLen; omega) (by omega) (by simp; omega) ?_)
      intro o2 w2 hown2 hgrow2 _
      have B2 := Lib.hid ((HBq.out.alloc sbq (.cells #[.int .i64 x0, .int .i64 x1, .int .i64 x2, .int .u64 x3] 138)).grown hgrow2 (by simp; omega) (fun g hg => (HOq.out.lt g hg).1))
      have HO2 : Hid (Row w2 w1.heap.size o2 (ts ++ [(x0, x1, x2, x3)])) := by
       show World.ownsRow _ _ _ _ _ _ _
       rw [flatS_snoc]
       simpa using hown2
      obtain ⟨g2, cap2, rfl⟩ := ownsRow_succ hown2
      have sb2 := B2.out.size
      clear hown2 hgrow2
      have hl2 : (ts ++ [(x0, x1, x2, x3)]).length ≤ 901 := by simp; omega
      have r0 : w2.cell? ⟨bb, off + j * 4, none⟩ = some (.int .i64 y0) := (B2.out.cell (p := ⟨bb, off + j * 4, none⟩) hb).trans q00
      have r1 : w2.cell? ⟨bb, off + j * 4 + 1, none⟩ = some (.int .i64 y1) := (B2.out.cell (p := ⟨bb, off + j * 4 + 1, none⟩) hb).trans q11
      have r2 : w2.cell? ⟨bb, off + j * 4 + 2, none⟩ = some (.int .i64 y2) := (B2.out.cell (p := ⟨bb, off + j * 4 + 2, none⟩) hb).trans q22
      have r3 : w2.cell? ⟨bb, off + j * 4 + 3, none⟩ = some (.int .u64 y3) := (B2.out.cell (p := ⟨bb, off + j * 4 + 3, none⟩) hb).trans q33
      have lb2 : bb < w2.heap.size := by omega
      go_wp2_with (at_builtin; refine wpList_append_own _ rfl _ _ 105 rfl (w1.heap.size) 138 i0 (.agg #[.int .i64 0, .int .i64 0, .int .i64 0, .int .u64 0]) 4 32 HE.out.ut HE.out.info HE.out.zero HE.out.sz HE.out.by_ HE.out.cells HE.out.pos _ _ _ rfl (HO2.out.alloc _) ⟨w2.heap.size, 0, none⟩ 1 1 (Law.cellsS (y0, y1, y2, y3)) rfl rfl (Law.new_fourAt _ (y0, y1, y2, y3) _ (by simp)) (Law.four_one _) (by unfold maxLen; omega) (by omega) (by simp; omega) ?_)
      intro o3 w3 hown3 hgrow3 _
      have B3 := Lib.hid ((B2.out.alloc sb2 (.cells #[.int .i64 y0, .int .i64 y1, .int .i64 y2, .int .u64 y3] 138)).grown hgrow3 (by simp; omega) (fun g hg => (HO2.out.lt g hg).1))
      have HO3 : Hid (Row w3 w1.heap.size o3 ((ts ++ [(x0, x1, x2, x3)]) ++ [(y0, y1, y2, y3)])) := by
       show World.ownsRow _ _ _ _ _ _ _
       rw [flatS_snoc]
       simpa using hown3
      obtain ⟨g3, cap3, rfl⟩ := ownsRow_succ hown3
      have sb3 := B3.out.size
      clear hown3 hgrow3
      go_wp2_with fail
      go_roundw
      case rel => exact ⟨j + 1, true, by omega, by go_num, rfl, B3.out, .inr ⟨rfl, ⟨(y0, y1, y2, y3), by rw [HT.out]; simp, hx⟩, by rw [HT.out, HQ.out]; exact HO3.out⟩⟩
      case measure => simp [intOf]; omega
     ·have d1 : decide (x0 < y0) = false := by simpa using hx
      go_wp2_with fail
      go_quiet (fail)
      have HBq := Lib.hid (below_drewN HB.out nq)
      have HOq : Hid (Row (wr.drewN nq) w1.heap.size u8 ts) := own_drewN HO.out nq
      have c0' : (wr.drewN nq).cell? ⟨w.heap.size, 0, none⟩ = some (.int .i64 x0) := c0
      have c1' : (wr.drewN nq).cell? ⟨w.heap.size, 1, none⟩ = some (.int .i64 x1) := c1
      have c2' : (wr.drewN nq).cell? ⟨w.heap.size, 2, none⟩ = some (.int .i64 x2) := c2
      have c3' : (wr.drewN nq).cell? ⟨w.heap.size, 3, none⟩ = some (.int .u64 x3) := c3
      have q0' : (wr.drewN nq).cell? ⟨bb, off + j * 4, none⟩ = some (.int .i64 y0) := q0
      have q1' : (wr.drewN nq).cell? ⟨bb, off + j * 4 + 1, none⟩ = some (.int .i64 y1) := q1
      have q2' : (wr.drewN nq).cell? ⟨bb, off + j * 4 + 2, none⟩ = some (.int .i64 y2) := q2
      have q3' : (wr.drewN nq).cell? ⟨bb, off + j * 4 + 3, none⟩ = some (.int .u64 y3) := q3
      have lrq : w.heap.size < (wr.drewN nq).heap.size := lr
      have lbq : bb < (wr.drewN nq).heap.size := lb
      have sbq : w1.heap.size ≤ (wr.drewN nq).heap.size := sb
      clear c0 c1 c2 c3 q0 q1 q2 q3 lr lb sb HB HO
      generalize wr.drewN nq = wq at *
      go_wp2_with (at_builtin; refine wpList_append_own _ rfl _ _ 105 rfl (w1.heap.size) 138 i0 (.agg #[.int .i64 0, .int .i64 0, .int .i64 0, .int .u64 0]) 4 32 HE.out.ut HE.out.info HE.out.zero HE.out.sz HE.out.by_ HE.out.cells HE.out.pos _ _ _ rfl (HOq.out.alloc _) ⟨wq.heap.size, 0, none⟩ 1 1 (Law.cellsS (y0, y1, y2, y3)) rfl rfl (Law.new_fourAt _ (y0, y1, y2, y3) _ (by simp)) (Law.four_one _) (by unfold maxLen; omega) (by omega) (by simp; omega) ?_)
      intro o2 w2 hown2 hgrow2 _
      have B2 := Lib.hid ((HBq.out.alloc sbq (.cells #[.int .i64 y0, .int .i64 y1, .int .i64 y2, .int .u64 y3] 138)).grown hgrow2 (by simp; omega) (fun g hg => (HOq.out.lt g hg).1))
      have HO2 : Hid (Row w2 w1.heap.size o2 (ts ++ [(y0, y1, y2, y3)])) := by
       show World.ownsRow _ _ _ _ _ _ _
       rw [flatS_snoc]
       simpa using hown2
      obtain ⟨g2, cap2, rfl⟩ := ownsRow_succ hown2
      have sb2 := B2.out.size
      clear hown2 hgrow2
      go_wp2_with fail
      go_roundw
      case rel => exact ⟨j + 1, false, by omega, by go_num, rfl, B2.out, .inl ⟨rfl, fun q hq' => by rw [HT.out] at hq'; rcases List.mem_append.1 hq' with h | h; exact HL.out q h; simp at h; subst h; have := HN'.out; show y0 < x0; omega, by rw [HT.out]; exact HO2.out⟩⟩
      case measure => simp [intOf]; omega
    ·have HO := Lib.hid hown
     have HM := Lib.hid hmore
     have HQ := Lib.hid (put_snoc (x0, x1, x2, x3) HRT.out hmore)
     clear hown hmore
     generalize put (x0, x1, x2, x3) ts = ps at *
     go_wp2_with fail
     go_quiet (fail)
     have HBq := Lib.hid (below_drewN HB.out nq)
     have HOq : Hid (Row (wr.drewN nq) w1.heap.size u8 ps) := own_drewN HO.out nq
     have c0' : (wr.drewN nq).cell? ⟨w.heap.size, 0, none⟩ = some (.int .i64 x0) := c0
     have c1' : (wr.drewN nq).cell? ⟨w.heap.size, 1, none⟩ = some (.int .i64 x1) := c1
     have c2' : (wr.drewN nq).cell? ⟨w.heap.size, 2, none⟩ = some (.int .i64 x2) := c2
     have c3' : (wr.drewN nq).cell? ⟨w.heap.size, 3, none⟩ = some (.int .u64 x3) := c3
     have q0' : (wr.drewN nq).cell? ⟨bb, off + j * 4, none⟩ = some (.int .i64 y0) := q0
     have q1' : (wr.drewN nq).cell? ⟨bb, off + j * 4 + 1, none⟩ = some (.int .i64 y1) := q1
     have q2' : (wr.drewN nq).cell? ⟨bb, off + j * 4 + 2, none⟩ = some (.int .i64 y2) := q2
     have q3' : (wr.drewN nq).cell? ⟨bb, off + j * 4 + 3, none⟩ = some (.int .u64 y3) := q3
     have lrq : w.heap.size < (wr.drewN nq).heap.size := lr
     have lbq : bb < (wr.drewN nq).heap.size := lb
     have sbq : w1.heap.size ≤ (wr.drewN nq).heap.size := sb
     clear c0 c1 c2 c3 q0 q1 q2 q3 lr lb sb HB HO
     generalize wr.drewN nq = wq at *
     go_wp2_with (at_builtin; refine wpList_append_own _ rfl _ _ 105 rfl (w1.heap.size) 138 i0 (.agg #[.int .i64 0, .int .i64 0, .int .i64 0, .int .u64 0]) 4 32 HE.out.ut HE.out.info HE.out.zero HE.out.sz HE.out.by_ HE.out.cells HE.out.pos _ _ _ rfl (HOq.out.alloc _) ⟨wq.heap.size, 0, none⟩ 1 1 (Law.cellsS (y0, y1, y2, y3)) rfl rfl (Law.new_fourAt _ (y0, y1, y2, y3) _ (by simp)) (Law.four_one _) (by unfold maxLen; omega) (by omega) (by simp; omega) ?_)
     intro o2 w2 hown2 hgrow2 _
     have B2 := Lib.hid ((HBq.out.alloc sbq (.cells #[.int .i64 y0, .int .i64 y1, .int .i64 y2, .int .u64 y3] 138)).grown hgrow2 (by simp; omega) (fun g hg => (HOq.out.lt g hg).1))
     have HO2 : Hid (Row w2 w1.heap.size o2 (ps ++ [(y0, y1, y2, y3)])) := by
      show World.ownsRow _ _ _ _ _ _ _
      rw [flatS_snoc]
      simpa using hown2
     obtain ⟨g2, cap2, rfl⟩ := ownsRow_succ hown2
     have sb2 := B2.out.size
     clear hown2 hgrow2
     go_wp2_with fail
     go_roundw
     case rel => exact ⟨j + 1, true, by omega, by go_num, rfl, B2.out, .inr ⟨rfl, by obtain ⟨q, hq', hk⟩ := HM.out; exact ⟨q, by rw [HT.out]; simp [hq'], hk⟩, by rw [HT.out, HQ.out]; exact HO2.out⟩⟩
     case measure => simp [intOf]; omega
   ·have e1 : rs.take j = rs := List.take_of_length_le (by omega)
    rw [e1] at hO
    have hpl := put_le (x0, x1, x2, x3) rs
    rcases hO with ⟨rfl, hless, hown⟩ | ⟨rfl, hmore, hown⟩
    ·have HO := Lib.hid hown
     have HQ : Hid (put (x0, x1, x2, x3) rs = rs ++ [(x0, x1, x2, x3)]) := put_end (x0, x1, x2, x3) hless
     clear hown hless
     go_wp2_with (at_builtin; refine wpList_append_own _ rfl _ _ 105 rfl (w1.heap.size) 138 i0 (.agg #[.int .i64 0, .int .i64 0, .int .i64 0, .int .u64 0]) 4 32 HE.out.ut HE.out.info HE.out.zero HE.out.sz HE.out.by_ HE.out.cells HE.out.pos _ _ _ rfl (HO.out.alloc _) ⟨wr.heap.size, 0, none⟩ 1 1 (Law.cellsS (x0, x1, x2, x3)) rfl rfl (Law.new_fourAt _ (x0, x1, x2, x3) _ (by simp)) (Law.four_one _) (by unfold maxLen; omega) (by omega) (by simp; omega) ?_)
     intro o2 w2 hown2 hgrow2 _
     have B2 := Lib.hid ((HB.out.alloc sb (.cells #[.int .i64 x0, .int .i64 x1, .int .i64 x2, .int .u64 x3] 138)).grown hgrow2 (by simp; omega) (fun g hg => (HO.out.lt g hg).1))
     have HO2 : Hid (Row w2 w1.heap.size o2 (rs ++ [(x0, x1, x2, x3)])) := by
      show World.ownsRow _ _ _ _ _ _ _
      rw [flatS_snoc]
      simpa using hown2
     obtain ⟨g2, cap2, rfl⟩ := ownsRow_succ hown2
     have sb2 := B2.out.size
     clear hown2 hgrow2
     have hlen : (rs ++ [(x0, x1, x2, x3)]).length = rs.length + 1 := by simp
     have HLen := Lib.hid hlen
     clear hlen
     go_wp2_with fail
     refine bodyPost_ret (v := .tuple #[.slice (some ⟨g2, 0, none⟩) (rs.length + 1) cap2, .int .i64 0]) (by simp [results, Tryz.results63, go_sem]) rfl ?_
     refine ⟨some ⟨g2, 0, none⟩, cap2, by rw [← HP.out, HQ.out, HLen.out], ?_, HB1.out.trans (B2.out.mono (by omega))⟩
     rw [← HP.out, HQ.out, HLen.out]
     exact own_base HO2.out (by omega)
    ·have HO := Lib.hid hown
     clear hown hmore
     obtain ⟨A2, c2', rfl, _⟩ := own_shape HO.out
     go_wp2_with fail
     refine bodyPost_ret (v := .tuple #[.slice A2 (put (x0, x1, x2, x3) rs).length c2', .int .i64 0]) (by simp [results, Tryz.results63, go_sem]) rfl ?_
     refine ⟨A2, c2', by rw [← HP.out], ?_, HB1.out.trans (HB.out.mono (by omega))⟩
     rw [← HP.out]
     exact own_base HO.out (by omega)
end Sess
end Go.Proofs.YtohdlnefgieenaaGreat
