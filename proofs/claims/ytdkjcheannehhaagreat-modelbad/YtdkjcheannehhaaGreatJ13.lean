/-
  What Beat and Clear (layer 6) come to.
-/
import Derived.Test.YtdkjcheannehhaaGreatJ12
import Derived.Test.YtdkjcheannehhaaGreatJ10
import Derived.RangeFuncBox
import Derived.Deep.QuietTactic
import Derived.BigQuiet
namespace Go.Law
theorem flatS_until (zs : List Sn) (i : Nat) (m : Int) (h : i < zs.length) : (flatS zs).toArray.setIfInBounds (i * 4 + 3) (.int .u64 m) = (flatS (zs.set i (zs[i].1, zs[i].2.1, zs[i].2.2.1, m))).toArray := by
  simp only [List.setIfInBounds_toArray]
  congr 1
  induction zs generalizing i with
  | nil => simp at h
  | cons p r ih =>
    cases i with
    | zero => simp [flatS_cons]
    | succ i =>
      have := ih i (by simpa using h)
      rw [List.set_cons_succ, flatS_cons, flatS_cons, show (i + 1) * 4 + 3 = i * 4 + 3 + 1 + 1 + 1 + 1 by omega]
      simp only [List.set_cons_succ, List.getElem_cons_succ, this]
end Go.Law
namespace Go.Proofs.YtdkjcheannehhaaGreat
open Go.RowKit
namespace Sess
open Go.Law

set_option maxRecDepth 100000 in
set_option maxHeartbeats 1600000 in
theorem beatNo (k u : Int) (zs : List Sn) (A : Option Addr) (c : Nat) (w : World) (hs : Seq w 0 w.heap.size A (flatS zs)) (hl : zs.length ≤ 900) (hh : hasS k zs = false) :
    Calls Tryz.prog 122 #[.slice A zs.length c, .int .i64 k, .int .u64 u] w (Listed2 w zs 3) := by
  have HS := Lib.hid hs
  rw [has_at] at hh
  have hat : atS k zs = zs.length := by have := atS_le k zs; simp at hh; omega
  clear hs
  go_enter Tryz.func122, Tryz.ntmps122
  go_wp2_with fail
  refine (copied zs A c w HS.out (by omega)).mono ?_
  rintro e w1 ⟨rfl, k1, b1⟩
  have K1 := Lib.hid k1
  have B1 := Lib.hid b1
  have lg := k1.lt
  clear k1 b1
  have hgw : Hid (w.heap.size ≤ w.heap.size) := Nat.le_refl _
  generalize hg : w.heap.size = g at K1 lg hgw ⊢
  go_wp2_with (go_at_call 134; refine (of_ _ _).mono ?_; rintro e w' ⟨rfl, rfl⟩)
  have b1a := (Below.refl w1.heap.size w1).alloc (Nat.le_refl _) (.cells #[.int .i64 k] 3)
  have K1a := K1.out.below b1a K1.out.lt
  refine (whereOf k w1.heap.size zs (some ⟨g, 0, none⟩) zs.length _ ((Is.new w1 3 #[.int .i64 k] rfl).cell' rfl) ((K1a.seqS.from_ (Nat.zero_le _)).more K1a.lt) (by unfold maxLen; omega)).mono ?_
  rintro e w2 ⟨rfl, b2⟩
  have b12 : Below w1.heap.size w1 w2 := b1a.trans (b2.mono (by simp))
  have K2 := Lib.hid (K1.out.below b12 K1.out.lt)
  have B2 := Lib.hid (B1.out.trans (b12.mono B1.out.size))
  have lk := K2.out.lt
  clear b1a K1a b2 b12 K1 B1
  rw [hat]
  clear hat
  go_wp2_with fail
  refine bodyPost_ret (v := .tuple #[.slice (some ⟨g, 0, none⟩) zs.length zs.length, .int .i64 3]) (by simp [results, Tryz.results122, go_sem]) rfl ?_
  exact ⟨some ⟨g, 0, none⟩, zs.length, rfl, K2.out.row (by omega) (by unfold maxLen; omega), B2.out⟩

set_option maxRecDepth 100000 in
set_option maxHeartbeats 1600000 in
theorem clearNo (k : Int) (zs : List Sn) (A : Option Addr) (c : Nat) (w : World) (hs : Seq w 0 w.heap.size A (flatS zs)) (hl : zs.length ≤ 900) (hh : hasS k zs = false) :
    Calls Tryz.prog 123 #[.slice A zs.length c, .int .i64 k] w (Listed2 w zs 3) := by
  have HS := Lib.hid hs
  rw [has_at] at hh
  have hat : atS k zs = zs.length := by have := atS_le k zs; simp at hh; omega
  clear hs
  go_enter Tryz.func123, Tryz.ntmps123
  go_wp2_with fail
  refine (copied zs A c w HS.out (by omega)).mono ?_
  rintro e w1 ⟨rfl, k1, b1⟩
  have K1 := Lib.hid k1
  have B1 := Lib.hid b1
  have lg := k1.lt
  clear k1 b1
  have hgw : Hid (w.heap.size ≤ w.heap.size) := Nat.le_refl _
  generalize hg : w.heap.size = g at K1 lg hgw ⊢
  go_wp2_with (go_at_call 134; refine (of_ _ _).mono ?_; rintro e w' ⟨rfl, rfl⟩)
  have b1a := (Below.refl w1.heap.size w1).alloc (Nat.le_refl _) (.cells #[.int .i64 k] 3)
  have K1a := K1.out.below b1a K1.out.lt
  refine (whereOf k w1.heap.size zs (some ⟨g, 0, none⟩) zs.length _ ((Is.new w1 3 #[.int .i64 k] rfl).cell' rfl) ((K1a.seqS.from_ (Nat.zero_le _)).more K1a.lt) (by unfold maxLen; omega)).mono ?_
  rintro e w2 ⟨rfl, b2⟩
  have b12 : Below w1.heap.size w1 w2 := b1a.trans (b2.mono (by simp))
  have K2 := Lib.hid (K1.out.below b12 K1.out.lt)
  have B2 := Lib.hid (B1.out.trans (b12.mono B1.out.size))
  have lk := K2.out.lt
  clear b1a K1a b2 b12 K1 B1
  rw [hat]
  clear hat
  go_wp2_with fail
  refine bodyPost_ret (v := .tuple #[.slice (some ⟨g, 0, none⟩) zs.length zs.length, .int .i64 3]) (by simp [results, Tryz.results123, go_sem]) rfl ?_
  exact ⟨some ⟨g, 0, none⟩, zs.length, rfl, K2.out.row (by omega) (by unfold maxLen; omega), B2.out⟩

set_option maxRecDepth 100000 in
set_option maxHeartbeats 1600000 in
theorem clearOne (k : Int) (zs : List Sn) (A : Option Addr) (c : Nat) (w : World) (hs : Seq w 0 w.heap.size A (flatS zs)) (hl : zs.length ≤ 900) (hu : Up zs) (hh : hasS k zs = true) :
    Calls Tryz.prog 123 #[.slice A zs.length c, .int .i64 k] w (Listed2 w (out k zs) 0) := by
  have HS := Lib.hid hs
  rw [has_at] at hh
  have hat : atS k zs < zs.length := by simpa using hh
  have HOut := Lib.hid (out_at k hu hat)
  clear hs
  go_enter Tryz.func123, Tryz.ntmps123
  go_wp2_with fail
  refine (copied zs A c w HS.out (by omega)).mono ?_
  rintro e w1 ⟨rfl, k1, b1⟩
  have K1 := Lib.hid k1
  have B1 := Lib.hid b1
  have lg := k1.lt
  clear k1 b1
  have hgw : Hid (w.heap.size ≤ w.heap.size) := Nat.le_refl _
  generalize hg : w.heap.size = g at K1 lg hgw ⊢
  go_wp2_with (go_at_call 134; refine (of_ _ _).mono ?_; rintro e w' ⟨rfl, rfl⟩)
  have b1a := (Below.refl w1.heap.size w1).alloc (Nat.le_refl _) (.cells #[.int .i64 k] 3)
  have K1a := K1.out.below b1a K1.out.lt
  refine (whereOf k w1.heap.size zs (some ⟨g, 0, none⟩) zs.length _ ((Is.new w1 3 #[.int .i64 k] rfl).cell' rfl) ((K1a.seqS.from_ (Nat.zero_le _)).more K1a.lt) (by unfold maxLen; omega)).mono ?_
  rintro e w2 ⟨rfl, b2⟩
  have b12 : Below w1.heap.size w1 w2 := b1a.trans (b2.mono (by simp))
  have K2 := Lib.hid (K1.out.below b12 K1.out.lt)
  have B2 := Lib.hid (B1.out.trans (b12.mono B1.out.size))
  have lk := K2.out.lt
  clear b1a K1a b2 b12 K1 B1
  generalize atS k zs = at_ at *
  have hne : ¬ (at_ = zs.length) := by omega
  go_wp2_with (go_at_call 137; refine (deleteAt zs at_ g w.heap.size w2 K2.out (by omega) (by omega) hat).mono ?_; rintro e w3 ⟨A3, c3, rfl, r3, b3⟩; have R3 := Lib.hid r3; have B3 := Lib.hid (B2.out.trans b3); clear r3 b3)
  refine bodyPost_ret (v := .tuple #[.slice A3 (zs.take at_ ++ zs.drop (at_ + 1)).length c3, .int .i64 0]) (by simp [results, Tryz.results123, go_sem]) rfl ?_
  exact ⟨A3, c3, by rw [HOut.out], by rw [HOut.out]; exact R3.out, B3.out⟩

set_option maxRecDepth 100000 in
set_option maxHeartbeats 1600000 in
theorem beatOne (k u : Int) (zs : List Sn) (A : Option Addr) (c : Nat) (w : World) (hs : Seq w 0 w.heap.size A (flatS zs)) (hl : zs.length ≤ 900) (hu : Up zs) (hh : hasS k zs = true) :
    Calls Tryz.prog 122 #[.slice A zs.length c, .int .i64 k, .int .u64 u] w (Listed2 w (beatS k u zs) 0) := by
  have HS := Lib.hid hs
  rw [has_at] at hh
  have hat : atS k zs < zs.length := by simpa using hh
  have HBt := Lib.hid (beat_at k u hu hat)
  have HKy := Lib.hid (at_get hat)
  clear hs
  go_enter Tryz.func122, Tryz.ntmps122
  go_wp2_with fail
  refine (copied zs A c w HS.out (by omega)).mono ?_
  rintro e w1 ⟨rfl, k1, b1⟩
  have K1 := Lib.hid k1
  have B1 := Lib.hid b1
  have lg := k1.lt
  clear k1 b1
  have hgw : Hid (w.heap.size ≤ w.heap.size) := Nat.le_refl _
  generalize hg : w.heap.size = g at K1 lg hgw ⊢
  go_wp2_with (go_at_call 134; refine (of_ _ _).mono ?_; rintro e w' ⟨rfl, rfl⟩)
  have b1a := (Below.refl w1.heap.size w1).alloc (Nat.le_refl _) (.cells #[.int .i64 k] 3)
  have K1a := K1.out.below b1a K1.out.lt
  refine (whereOf k w1.heap.size zs (some ⟨g, 0, none⟩) zs.length _ ((Is.new w1 3 #[.int .i64 k] rfl).cell' rfl) ((K1a.seqS.from_ (Nat.zero_le _)).more K1a.lt) (by unfold maxLen; omega)).mono ?_
  rintro e w2 ⟨rfl, b2⟩
  have b12 : Below w1.heap.size w1 w2 := b1a.trans (b2.mono (by simp))
  have K2 := Lib.hid (K1.out.below b12 K1.out.lt)
  have B2 := Lib.hid (B1.out.trans (b12.mono B1.out.size))
  have lk := K2.out.lt
  clear b1a K1a b2 b12 K1 B1
  generalize atS k zs = at_ at *
  have hne : ¬ (at_ = zs.length) := by omega
  obtain ⟨b', off', e', _, _, e0, e1, e2, e3⟩ := K2.out.seqS.ses hat
  obtain ⟨rfl, rfl⟩ : g = b' ∧ 0 = off' := by injection e' with e'; injection e' with e1 e2; exact ⟨e1, e2⟩
  rw [Nat.zero_add] at e0 e1 e2 e3
  clear e'
  have f3 := K2.out.frozen (at_ * 4 + 3)
  have HF : Hid (∀ m, m = max zs[at_].2.2.2 u → Is (w2.setCell ⟨g, at_ * 4 + 3, none⟩ (.int .u64 m)) g 143 (flatS (beatS k u zs)).toArray) := fun m hm => by
    have h1 := K2.out.set (at_ * 4 + 3) (.int .u64 m) (flatS_until zs at_ m hat)
    rw [HKy.out, hm] at h1
    rw [HBt.out, hm]
    exact h1
  have hbl := beat_length k u zs
  have HBL := Lib.hid hbl
  clear hbl
  go_wp2_with fail
  all_goals
    refine bodyPost_ret (v := .tuple #[.slice (some ⟨g, 0, none⟩) zs.length zs.length, .int .i64 0]) (by simp [results, Tryz.results122, go_sem]) rfl ?_
    refine ⟨some ⟨g, 0, none⟩, zs.length, by rw [HBL.out], ?_, B2.out.setCell (p := ⟨g, at_ * 4 + 3, none⟩) (by simp; omega) _⟩
    have h5 := fun m hm => (HF.out m hm).row (base := w.heap.size) (by omega) (by rw [HBL.out]; unfold maxLen; omega)
    show World.ownsRow _ _ _ _ _ _ _
    rw [HBL.out] at h5 ⊢
    exact h5 _ (by omega)
end Sess
end Go.Proofs.YtdkjcheannehhaaGreat
/-
  What the reference of layer 6 comes to: Has, Same, Purge, Clear.
-/
namespace Go.Law
theorem out_snoc (k : Int) (xs : List Sn) (q : Sn) : out k (xs ++ [q]) = if q.1 = k then out k xs else out k xs ++ [q] := by
  unfold out outK
  rw [List.filter_append]
  by_cases h : q.1 = k
  · rw [if_pos h, List.filter_cons_of_neg (by simp [h])]; simp
  · rw [if_neg h, List.filter_cons_of_pos (by simpa using h)]; rfl
theorem out_length_le (k : Int) (l : List Sn) : (out k l).length ≤ l.length := outK_length k l
theorem out_no {k : Int} {l : List Sn} {q : Sn} (h : q ∈ out k l) : q.1 ≠ k := by simpa using (List.mem_filter.1 h).2
theorem beat_snoc (k u : Int) (xs : List Sn) (q : Sn) : beatS k u (xs ++ [q]) = beatS k u xs ++ [beat1 k u q] := by simp [beatS]
theorem put_over (s : Sn) : ∀ {xs ys : List Sn}, (∀ p ∈ xs, p.1 < s.1) → put s (xs ++ ys) = xs ++ put s ys
  | [], _, _ => rfl
  | p :: r, ys, h => by
    have h1 := h p (by simp)
    rw [List.cons_append, put_cons, if_neg (by omega), if_pos h1, put_over s fun q hq => h q (by simp [hq])]; rfl
theorem put_end (s : Sn) {xs : List Sn} (h : ∀ p ∈ xs, p.1 < s.1) : put s xs = xs ++ [s] := by
  have := put_over s (ys := []) h
  simpa [put, putK] using this
theorem put_snoc (s : Sn) {x : Sn} : ∀ {xs : List Sn}, Up (xs ++ [x]) → (∃ q ∈ xs, s.1 < q.1) → put s (xs ++ [x]) = put s xs ++ [x]
  | [], _, h => by obtain ⟨q, hq, _⟩ := h; cases hq
  | p :: r, hr, h => by
    rw [List.cons_append, put_cons, put_cons]
    split
    · rfl
    · rename_i h1
      split
      · rename_i h2
        obtain ⟨q, hq, hk⟩ := h
        rcases List.mem_cons.1 hq with rfl | hq
        · exact absurd hk h1
        · rw [put_snoc s hr.tail ⟨q, hq, hk⟩]; rfl
      · rfl
theorem put_out (s : Sn) : ∀ {l : List Sn}, Up l → put s (out s.1 l) = put s l
  | [], _ => rfl
  | p :: r, h => by
    have ih := put_out s h.tail
    rcases Int.lt_trichotomy s.1 p.1 with e | e | e
    · have h1 : out s.1 (p :: r) = p :: r := out_none (by
        rw [Bool.eq_false_iff]; intro h'
        obtain ⟨q, hq, e'⟩ := has_mem h'
        rcases List.mem_cons.1 hq with rfl | hq
        · omega
        · have : p.1 < q.1 := h.head q hq
          omega)
      rw [h1]
    · have h1 : out s.1 (p :: r) = r := by
        have h2 : out s.1 (p :: r) = out s.1 r := by unfold out outK; rw [List.filter_cons_of_neg (by simp [e])]
        rw [h2]
        exact out_none (by
          rw [Bool.eq_false_iff]; intro h'
          have := Up.lt_has h h'
          omega)
      rw [h1, put_cons, if_neg (by omega), if_neg (by omega)]
      cases r with
      | nil => rfl
      | cons q r => rw [put_cons, if_pos (by have : p.1 < q.1 := h.head q (by simp); omega)]
    · have h1 : out s.1 (p :: r) = p :: out s.1 r := by unfold out outK; rw [List.filter_cons_of_pos (by simp; omega)]
      rw [h1, put_cons, if_neg (by omega), if_pos e, ih, put_cons, if_neg (by omega), if_pos e]
end Go.Law
namespace Go.Proofs.YtdkjcheannehhaaGreat
open Go.RowKit
namespace Sess
open Go.Law

set_option maxRecDepth 100000 in
set_option maxHeartbeats 800000 in
theorem refHas (k : Int) (zs : List Sn) (A : Option Addr) (c : Nat) (w : World) (hs : Seq w 0 w.heap.size A (flatS zs)) (hl : zs.length ≤ 1000) :
    Calls Tryz.prog 74 #[.slice A zs.length c, .int .i64 k] w fun e w' => e = .returned (.bool (hasS k zs)) ∧ w = w' := by
  have HS := Lib.hid hs
  clear hs
  go_enter Tryz.func74, Tryz.ntmps74
  go_wp2_with fail
  go_loop [5] (fun i => ∃ j : Nat, j ≤ zs.length ∧ i = .int .i64 j ∧ hasS k (zs.take j) = false) (fun i => zs.length - (intOf i).toNat)
  case atStart => exact ⟨0, Nat.zero_le _, rfl, rfl⟩
  case round =>
    obtain ⟨j, hj, rfl, hno⟩ := hrel
    have HNo := Lib.hid hno
    clear hno
    by_cases hlt : j < zs.length
    · obtain ⟨b, off, rfl, _, hb, q0, _, _, _⟩ := HS.out.ses hlt
      have HT := Lib.hid (List.take_succ_eq_append_getElem hlt)
      have HN : Hid (hasS k (zs.take (j + 1)) = (hasS k (zs.take j) || zs[j].1 == k)) := by show _ = _; rw [HT.out]; simp only [hasS, List.any_append, List.any_cons, List.any_nil, Bool.or_false]
      have HY : Hid (zs[j].1 = k → hasS k zs = true) := fun e => has_of (List.getElem_mem hlt) e
      generalize zs[j].1 = x at *
      by_cases hx : x = k
      · have HY' := Lib.hid (HY.out hx)
        subst hx
        go_wp2_with fail
        go_ret
        exact ⟨by rw [HY'.out]; rfl, rfl⟩
      · have d : (x == k) = false := by simpa using hx
        go_wp2_with fail
        go_round
        case rel => exact ⟨j + 1, by omega, by go_num, by rw [HN.out, HNo.out, d]; rfl⟩
        case measure => simp [intOf]; omega
    · rw [List.take_of_length_le (by omega)] at HNo
      go_wp2_with fail
      go_ret
      exact ⟨by rw [HNo.out]; rfl, rfl⟩

set_option maxRecDepth 100000 in
set_option maxHeartbeats 1600000 in
theorem refPurge (now : Int) (zs : List Sn) (A : Option Addr) (c : Nat) (w : World) (hs : Seq w 0 w.heap.size A (flatS zs)) (hl : zs.length ≤ 900) :
    Calls Tryz.prog 69 #[.slice A zs.length c, .int .u64 now] w (Listed w w.heap.size (live now zs)) := by
  obtain ⟨i0, hE⟩ := elem
  have HE := Lib.hid hE
  have HS := Lib.hid hs
  clear hE hs
  go_enter Tryz.func69, Tryz.ntmps69
  go_wp2_with fail
  go_loopw [5, 6] (fun v i wr => ∃ j : Nat, j ≤ zs.length ∧ i = .int .i64 j ∧ Row wr w.heap.size v (live now (zs.take j)) ∧ Below w.heap.size w wr) (fun _ i _ => zs.length - (intOf i).toNat)
  case atStart => exact ⟨0, Nat.zero_le _, rfl, World.ownsRow_nil _ _ _ _, Below.refl _ _⟩
  case round =>
    obtain ⟨j, hj, rfl, hown, hB⟩ := hrel
    have HO := Lib.hid hown
    have HB := Lib.hid hB
    have hol := live_length now (zs.take j)
    have hol2 : (live now (zs.take j)).length ≤ 900 := by simp at hol; omega
    have sb := hB.size
    clear hown hB hol
    by_cases hlt : j < zs.length
    · obtain ⟨b, off, rfl, _, hb, q0, q1, q2, q3⟩ := (HS.out.below HB.out).ses hlt
      have HT := Lib.hid (List.take_succ_eq_append_getElem hlt)
      have HT2 : Hid (live now (zs.take (j + 1)) = if now < zs[j].2.2.2 then live now (zs.take j) ++ [zs[j]] else live now (zs.take j)) := by show _ = _; rw [HT.out, live_snoc]
      clear HT
      have lb : b < wr.heap.size := by omega
      generalize live now (zs.take j) = os at *
      generalize hq : zs[j] = q at *
      obtain ⟨x0, x1, x2, x3⟩ := q
      simp only at q0 q1 q2 q3 HT2
      by_cases hk : now < x3
      · have d1 : decide (now < x3) = true := by simpa using hk
        go_wp2_with (at_builtin; refine wpList_append_own _ rfl _ _ 110 rfl (w.heap.size) 143 i0 (.agg #[.int .i64 0, .int .i64 0, .int .i64 0, .int .u64 0]) 4 32 HE.out.ut HE.out.info HE.out.zero HE.out.sz HE.out.by_ HE.out.cells HE.out.pos _ _ _ rfl (HO.out.alloc _) ⟨wr.heap.size, 0, none⟩ 1 1 (Law.cellsS (x0, x1, x2, x3)) rfl rfl (Law.new_fourAt _ (x0, x1, x2, x3) _ (by simp)) (Law.four_one _) (by unfold maxLen; omega) (by omega) (by simp; omega) ?_)
        intro v' w2 hown2 hgrow _
        have B2 := Lib.hid ((HB.out.alloc sb (.cells #[.int .i64 x0, .int .i64 x1, .int .i64 x2, .int .u64 x3] 143)).grown hgrow (by simp; omega) (fun g hg => (HO.out.lt g hg).1))
        have HO2 : Hid (Row w2 w.heap.size v' (os ++ [(x0, x1, x2, x3)])) := by
          show World.ownsRow _ _ _ _ _ _ _
          rw [flatS_snoc]
          simpa using hown2
        obtain ⟨g', cap', rfl⟩ := ownsRow_succ hown2
        clear hown2 hgrow
        go_wp2_with fail
        go_roundw
        case rel => exact ⟨j + 1, by omega, by go_num, by rw [HT2.out, if_pos (by omega)]; exact HO2.out, B2.out⟩
        case measure => simp [intOf]; omega
      · have d1 : decide (now < x3) = false := by simpa using hk
        go_wp2_with fail
        go_roundw
        case rel => exact ⟨j + 1, by omega, by go_num, by rw [HT2.out, if_neg (by omega)]; exact HO.out, HB.out⟩
        case measure => simp [intOf]; omega
    · have e1 : zs.take j = zs := List.take_of_length_le (by omega)
      rw [e1] at HO
      obtain ⟨A1, c1, rfl, _⟩ := own_shape HO.out
      go_wp2_with fail
      go_ret
      exact ⟨A1, c1, rfl, HO.out, HB.out⟩

set_option maxRecDepth 100000 in
set_option maxHeartbeats 1600000 in
theorem refClear (k : Int) (zs : List Sn) (A : Option Addr) (c : Nat) (w : World) (hs : Seq w 0 w.heap.size A (flatS zs)) (hl : zs.length ≤ 900) :
    Calls Tryz.prog 75 #[.slice A zs.length c, .int .i64 k] w (Listed w w.heap.size (out k zs)) := by
  obtain ⟨i0, hE⟩ := elem
  have HE := Lib.hid hE
  have HS := Lib.hid hs
  clear hE hs
  go_enter Tryz.func75, Tryz.ntmps75
  go_wp2_with fail
  go_loopw [5, 6] (fun v i wr => ∃ j : Nat, j ≤ zs.length ∧ i = .int .i64 j ∧ Row wr w.heap.size v (out k (zs.take j)) ∧ Below w.heap.size w wr) (fun _ i _ => zs.length - (intOf i).toNat)
  case atStart => exact ⟨0, Nat.zero_le _, rfl, World.ownsRow_nil _ _ _ _, Below.refl _ _⟩
  case round =>
    obtain ⟨j, hj, rfl, hown, hB⟩ := hrel
    have HO := Lib.hid hown
    have HB := Lib.hid hB
    have hol := out_length_le k (zs.take j)
    have hol2 : (out k (zs.take j)).length ≤ 900 := by simp at hol; omega
    have sb := hB.size
    clear hown hB hol
    by_cases hlt : j < zs.length
    · obtain ⟨b, off, rfl, _, hb, q0, q1, q2, q3⟩ := (HS.out.below HB.out).ses hlt
      have HT := Lib.hid (List.take_succ_eq_append_getElem hlt)
      have HT2 : Hid (out k (zs.take (j + 1)) = if zs[j].1 = k then out k (zs.take j) else out k (zs.take j) ++ [zs[j]]) := by show _ = _; rw [HT.out, out_snoc]
      clear HT
      have lb : b < wr.heap.size := by omega
      generalize out k (zs.take j) = os at *
      generalize hq : zs[j] = q at *
      obtain ⟨x0, x1, x2, x3⟩ := q
      simp only at q0 q1 q2 q3 HT2
      by_cases hk : ¬ (x0 = k)
      · have d1 : (x0 == k) = false := by simpa using hk
        go_wp2_with (at_builtin; refine wpList_append_own _ rfl _ _ 110 rfl (w.heap.size) 143 i0 (.agg #[.int .i64 0, .int .i64 0, .int .i64 0, .int .u64 0]) 4 32 HE.out.ut HE.out.info HE.out.zero HE.out.sz HE.out.by_ HE.out.cells HE.out.pos _ _ _ rfl (HO.out.alloc _) ⟨wr.heap.size, 0, none⟩ 1 1 (Law.cellsS (x0, x1, x2, x3)) rfl rfl (Law.new_fourAt _ (x0, x1, x2, x3) _ (by simp)) (Law.four_one _) (by unfold maxLen; omega) (by omega) (by simp; omega) ?_)
        intro v' w2 hown2 hgrow _
        have B2 := Lib.hid ((HB.out.alloc sb (.cells #[.int .i64 x0, .int .i64 x1, .int .i64 x2, .int .u64 x3] 143)).grown hgrow (by simp; omega) (fun g hg => (HO.out.lt g hg).1))
        have HO2 : Hid (Row w2 w.heap.size v' (os ++ [(x0, x1, x2, x3)])) := by
          show World.ownsRow _ _ _ _ _ _ _
          rw [flatS_snoc]
          simpa using hown2
        obtain ⟨g', cap', rfl⟩ := ownsRow_succ hown2
        clear hown2 hgrow
        go_wp2_with fail
        go_roundw
        case rel => exact ⟨j + 1, by omega, by go_num, by rw [HT2.out, if_neg (by omega)]; exact HO2.out, B2.out⟩
        case measure => simp [intOf]; omega
      · have hk' : x0 = k := Classical.byContradiction hk
        have d1 : (x0 == k) = true := by simpa using hk'
        go_wp2_with fail
        go_roundw
        case rel => exact ⟨j + 1, by omega, by go_num, by rw [HT2.out, if_pos (by omega)]; exact HO.out, HB.out⟩
        case measure => simp [intOf]; omega
    · have e1 : zs.take j = zs := List.take_of_length_le (by omega)
      rw [e1] at HO
      obtain ⟨A1, c1, rfl, _⟩ := own_shape HO.out
      go_wp2_with fail
      go_ret
      exact ⟨A1, c1, rfl, HO.out, HB.out⟩
end Sess
end Go.Proofs.YtdkjcheannehhaaGreat
