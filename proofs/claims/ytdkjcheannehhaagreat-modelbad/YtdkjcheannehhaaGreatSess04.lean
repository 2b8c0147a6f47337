/-
  What Beat and Clear (layer 6) come to.
-/
import Derived.Test.YtdkjcheannehhaaGreatSess03
namespace Go.Law
theorem flatS_until (zs : List Sn) (i : Nat) (m : Int) (h : i < zs.length) : (flatS zs).toArray.setIfInBounds (i * 4 + 3) (.int .u64 m) = (flatS (zs.set i (zs[i].1, zs[i].2.1, zs[i].2.2.1, m))).toArray := by
  simp only [List.setIfInBounds_toArray]
  congr 1
  induction zs generalizing i with
  | nil => simp at h
  | cons p r ih =>
    cases i with
    | zero => simp [flatS_cons]
    | succ i =>
      have := ih i (by simpa using h)
      rw [List.set_cons_succ, flatS_cons, flatS_cons, show (i + 1) * 4 + 3 = i * 4 + 3 + 1 + 1 + 1 + 1 by omega]
      simp only [List.set_cons_succ, List.getElem_cons_succ, this]
end Go.Law
namespace Go.Proofs.YtdkjcheannehhaaGreat
open Go.RowKit
namespace Sess
open Go.Law

set_option maxRecDepth 100000 in
set_option maxHeartbeats 1600000 in
theorem beatNo (k u : Int) (zs : List Sn) (A : Option Addr) (c : Nat) (w : World) (hs : Seq w 0 w.heap.size A (flatS zs)) (hl : zs.length ≤ 900) (hh : hasS k zs = false) :
    Calls Tryz.prog 122 #[.slice A zs.length c, .int .i64 k, .int .u64 u] w (Listed2 w zs 3) := by
  have HS := Lib.hid hs
  rw [has_at] at hh
  have hat : atS k zs = zs.length := by have := atS_le k zs; simp at hh; omega
  clear hs
  go_enter Tryz.func122, Tryz.ntmps122
  go_wp2_with fail
  refine (copied zs A c w HS.out (by omega)).mono ?_
  rintro e w1 ⟨rfl, k1, b1⟩
  have K1 := Lib.hid k1
  have B1 := Lib.hid b1
  have lg := k1.lt
  clear k1 b1
  have hgw : Hid (w.heap.size ≤ w.heap.size) := Nat.le_refl _
  generalize hg : w.heap.size = g at K1 lg hgw ⊢
  go_wp2_with (go_at_call 134; refine (of_ _ _).mono ?_; rintro e w' ⟨rfl, rfl⟩)
  have b1a := (Below.refl w1.heap.size w1).alloc (Nat.le_refl _) (.cells #[.int .i64 k] 3)
  have K1a := K1.out.below b1a K1.out.lt
  refine (whereOf k w1.heap.size zs (some ⟨g, 0, none⟩) zs.length _ ((Is.new w1 3 #[.int .i64 k] rfl).cell' rfl) ((K1a.seqS.from_ (Nat.zero_le _)).more K1a.lt) (by unfold maxLen; omega)).mono ?_
  rintro e w2 ⟨rfl, b2⟩
  have b12 : Below w1.heap.size w1 w2 := b1a.trans (b2.mono (by simp))
  have K2 := Lib.hid (K1.out.below b12 K1.out.lt)
  have B2 := Lib.hid (B1.out.trans (b12.mono B1.out.size))
  have lk := K2.out.lt
  clear b1a K1a b2 b12 K1 B1
  rw [hat]
  clear hat
  go_wp2_with fail
  refine bodyPost_ret (v := .tuple #[.slice (some ⟨g, 0, none⟩) zs.length zs.length, .int .i64 3]) (by simp [results, Tryz.results122, go_sem]) rfl ?_
  exact ⟨some ⟨g, 0, none⟩, zs.length, rfl, K2.out.row (by omega) (by unfold maxLen; omega), B2.out⟩

set_option maxRecDepth 100000 in
set_option maxHeartbeats 1600000 in
theorem clearNo (k : Int) (zs : List Sn) (A : Option Addr) (c : Nat) (w : World) (hs : Seq w 0 w.heap.size A (flatS zs)) (hl : zs.length ≤ 900) (hh : hasS k zs = false) :
    Calls Tryz.prog 123 #[.slice A zs.length c, .int .i64 k] w (Listed2 w zs 3) := by
  have HS := Lib.hid hs
  rw [has_at] at hh
  have hat : atS k zs = zs.length := by have := atS_le k zs; simp at hh; omega
  clear hs
  go_enter Tryz.func123, Tryz.ntmps123
  go_wp2_with fail
  refine (copied zs A c w HS.out (by omega)).mono ?_
  rintro e w1 ⟨rfl, k1, b1⟩
  have K1 := Lib.hid k1
  have B1 := Lib.hid b1
  have lg := k1.lt
  clear k1 b1
  have hgw : Hid (w.heap.size ≤ w.heap.size) := Nat.le_refl _
  generalize hg : w.heap.size = g at K1 lg hgw ⊢
  go_wp2_with (go_at_call 134; refine (of_ _ _).mono ?_; rintro e w' ⟨rfl, rfl⟩)
  have b1a := (Below.refl w1.heap.size w1).alloc (Nat.le_refl _) (.cells #[.int .i64 k] 3)
  have K1a := K1.out.below b1a K1.out.lt
  refine (whereOf k w1.heap.size zs (some ⟨g, 0, none⟩) zs.length _ ((Is.new w1 3 #[.int .i64 k] rfl).cell' rfl) ((K1a.seqS.from_ (Nat.zero_le _)).more K1a.lt) (by unfold maxLen; omega)).mono ?_
  rintro e w2 ⟨rfl, b2⟩
  have b12 : Below w1.heap.size w1 w2 := b1a.trans (b2.mono (by simp))
  have K2 := Lib.hid (K1.out.below b12 K1.out.lt)
  have B2 := Lib.hid (B1.out.trans (b12.mono B1.out.size))
  have lk := K2.out.lt
  clear b1a K1a b2 b12 K1 B1
  rw [hat]
  clear hat
  go_wp2_with fail
  refine bodyPost_ret (v := .tuple #[.slice (some ⟨g, 0, none⟩) zs.length zs.length, .int .i64 3]) (by simp [results, Tryz.results123, go_sem]) rfl ?_
  exact ⟨some ⟨g, 0, none⟩, zs.length, rfl, K2.out.row (by omega) (by unfold maxLen; omega), B2.out⟩

set_option maxRecDepth 100000 in
set_option maxHeartbeats 1600000 in
theorem clearOne (k : Int) (zs : List Sn) (A : Option Addr) (c : Nat) (w : World) (hs : Seq w 0 w.heap.size A (flatS zs)) (hl : zs.length ≤ 900) (hu : Up zs) (hh : hasS k zs = true) :
    Calls Tryz.prog 123 #[.slice A zs.length c, .int .i64 k] w (Listed2 w (out k zs) 0) := by
  have HS := Lib.hid hs
  rw [has_at] at hh
  have hat : atS k zs < zs.length := by simpa using hh
  have HOut := Lib.hid (out_at k hu hat)
  clear hs
  go_enter Tryz.func123, Tryz.ntmps123
  go_wp2_with fail
  refine (copied zs A c w HS.out (by omega)).mono ?_
  rintro e w1 ⟨rfl, k1, b1⟩
  have K1 := Lib.hid k1
  have B1 := Lib.hid b1
  have lg := k1.lt
  clear k1 b1
  have hgw : Hid (w.heap.size ≤ w.heap.size) := Nat.le_refl _
  generalize hg : w.heap.size = g at K1 lg hgw ⊢
  go_wp2_with (go_at_call 134; refine (of_ _ _).mono ?_; rintro e w' ⟨rfl, rfl⟩)
  have b1a := (Below.refl w1.heap.size w1).alloc (Nat.le_refl _) (.cells #[.int .i64 k] 3)
  have K1a := K1.out.below b1a K1.out.lt
  refine (whereOf k w1.heap.size zs (some ⟨g, 0, none⟩) zs.length _ ((Is.new w1 3 #[.int .i64 k] rfl).cell' rfl) ((K1a.seqS.from_ (Nat.zero_le _)).more K1a.lt) (by unfold maxLen; omega)).mono ?_
  rintro e w2 ⟨rfl, b2⟩
  have b12 : Below w1.heap.size w1 w2 := b1a.trans (b2.mono (by simp))
  have K2 := Lib.hid (K1.out.below b12 K1.out.lt)
  have B2 := Lib.hid (B1.out.trans (b12.mono B1.out.size))
  have lk := K2.out.lt
  clear b1a K1a b2 b12 K1 B1
  generalize atS k zs = at_ at *
  have hne : ¬ (at_ = zs.length) := by omega
  go_wp2_with (go_at_call 137; refine (deleteAt zs at_ g w.heap.size w2 K2.out (by omega) (by omega) hat).mono ?_; rintro e w3 ⟨A3, c3, rfl, r3, b3⟩; have R3 := Lib.hid r3; have B3 := Lib.hid (B2.out.trans b3); clear r3 b3)
  refine bodyPost_ret (v := .tuple #[.slice A3 (zs.take at_ ++ zs.drop (at_ + 1)).length c3, .int .i64 0]) (by simp [results, Tryz.results123, go_sem]) rfl ?_
  exact ⟨A3, c3, by rw [HOut.out], by rw [HOut.out]; exact R3.out, B3.out⟩

set_option maxRecDepth 100000 in
set_option maxHeartbeats 1600000 in
theorem beatOne (k u : Int) (zs : List Sn) (A : Option Addr) (c : Nat) (w : World) (hs : Seq w 0 w.heap.size A (flatS zs)) (hl : zs.length ≤ 900) (hu : Up zs) (hh : hasS k zs = true) :
    Calls Tryz.prog 122 #[.slice A zs.length c, .int .i64 k, .int .u64 u] w (Listed2 w (beatS k u zs) 0) := by
  have HS := Lib.hid hs
  rw [has_at] at hh
  have hat : atS k zs < zs.length := by simpa using hh
  have HBt := Lib.hid (beat_at k u hu hat)
  have HKy := Lib.hid (at_get hat)
  clear hs
  go_enter Tryz.func122, Tryz.ntmps122
  go_wp2_with fail
  refine (copied zs A c w HS.out (by omega)).mono ?_
  rintro e w1 ⟨rfl, k1, b1⟩
  have K1 := Lib.hid k1
  have B1 := Lib.hid b1
  have lg := k1.lt
  clear k1 b1
  have hgw : Hid (w.heap.size ≤ w.heap.size) := Nat.le_refl _
  generalize hg : w.heap.size = g at K1 lg hgw ⊢
  go_wp2_with (go_at_call 134; refine (of_ _ _).mono ?_; rintro e w' ⟨rfl, rfl⟩)
  have b1a := (Below.refl w1.heap.size w1).alloc (Nat.le_refl _) (.cells #[.int .i64 k] 3)
  have K1a := K1.out.below b1a K1.out.lt
  refine (whereOf k w1.heap.size zs (some ⟨g, 0, none⟩) zs.length _ ((Is.new w1 3 #[.int .i64 k] rfl).cell' rfl) ((K1a.seqS.from_ (Nat.zero_le _)).more K1a.lt) (by unfold maxLen; omega)).mono ?_
  rintro e w2 ⟨rfl, b2⟩
  have b12 : Below w1.heap.size w1 w2 := b1a.trans (b2.mono (by simp))
  have K2 := Lib.hid (K1.out.below b12 K1.out.lt)
  have B2 := Lib.hid (B1.out.trans (b12.mono B1.out.size))
  have lk := K2.out.lt
  clear b1a K1a b2 b12 K1 B1
  generalize atS k zs = at_ at *
  have hne : ¬ (at_ = zs.length) := by omega
  obtain ⟨b', off', e', _, _, e0, e1, e2, e3⟩ := K2.out.seqS.ses hat
  obtain ⟨rfl, rfl⟩ : g = b' ∧ 0 = off' := by injection e' with e'; injection e' with e1 e2; exact ⟨e1, e2⟩
  rw [Nat.zero_add] at e0 e1 e2 e3
  clear e'
  have f3 := K2.out.frozen (at_ * 4 + 3)
  have HF : Hid (∀ m, m = max zs[at_].2.2.2 u → Is (w2.setCell ⟨g, at_ * 4 + 3, none⟩ (.int .u64 m)) g 143 (flatS (beatS k u zs)).toArray) := fun m hm => by
    have h1 := K2.out.set (at_ * 4 + 3) (.int .u64 m) (flatS_until zs at_ m hat)
    rw [HKy.out, hm] at h1
    rw [HBt.out, hm]
    exact h1
  have hbl := beat_length k u zs
  have HBL := Lib.hid hbl
  clear hbl
  go_wp2_with fail
  all_goals
    refine bodyPost_ret (v := .tuple #[.slice (some ⟨g, 0, none⟩) zs.length zs.length, .int .i64 0]) (by simp [results, Tryz.results122, go_sem]) rfl ?_
    refine ⟨some ⟨g, 0, none⟩, zs.length, by rw [HBL.out], ?_, B2.out.setCell (p := ⟨g, at_ * 4 + 3, none⟩) (by simp; omega) _⟩
    have h5 := fun m hm => (HF.out m hm).row (base := w.heap.size) (by omega) (by rw [HBL.out]; unfold maxLen; omega)
    show World.ownsRow _ _ _ _ _ _ _
    rw [HBL.out] at h5 ⊢
    exact h5 _ (by omega)
end Sess
end Go.Proofs.YtdkjcheannehhaaGreat
