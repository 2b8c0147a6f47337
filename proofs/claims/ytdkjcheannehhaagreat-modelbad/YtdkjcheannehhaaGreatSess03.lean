/-
  What Purge, Set, Beat and Clear (layer 6) come to.
-/
import Derived.Test.YtdkjcheannehhaaGreatSess02
import Derived.RangeFuncBox
import Derived.Deep.RegionHeld3
import Derived.Deep.DeepCutAuto
namespace Go.Proofs.YtdkjcheannehhaaGreat
open Go.RowKit
namespace Sess
open Go.Law

set_option maxRecDepth 100000 in
set_option maxHeartbeats 1600000 in
theorem purge (now : Int) (zs : List Sn) (A : Option Addr) (c : Nat) (w : World) (hs : Seq w 0 w.heap.size A (flatS zs)) (hl : zs.length ≤ 900) :
    Calls Tryz.prog 87 #[.slice A zs.length c, .int .u64 now] w (Listed w w.heap.size (live now zs)) := by
  obtain ⟨i0, hE⟩ := elem
  have HE := Lib.hid hE
  have HS := Lib.hid hs
  clear hE hs
  go_enter Tryz.func87, Tryz.ntmps87
  go_wp2_with fail
  go_loopw [5, 10] (fun v i wr => ∃ j : Nat, j ≤ zs.length ∧ i = .int .i64 j ∧ Row wr w.heap.size v (live now (zs.take j)) ∧ Below w.heap.size w wr) (fun _ i _ => zs.length - (intOf i).toNat)
  case atStart => exact ⟨0, Nat.zero_le _, rfl, World.ownsRow_nil _ _ _ _, Below.refl _ _⟩
  case round =>
    obtain ⟨j, hj, rfl, hown, hB⟩ := hrel
    have HO := Lib.hid hown
    have HB := Lib.hid hB
    have hol := live_length now (zs.take j)
    have hol2 : (live now (zs.take j)).length ≤ 900 := by simp at hol; omega
    have sb := hB.size
    clear hown hB hol
    by_cases hlt : j < zs.length
    · obtain ⟨b, off, rfl, _, hb, q0, q1, q2, q3⟩ := (HS.out.below HB.out).ses hlt
      have HT := Lib.hid (List.take_succ_eq_append_getElem hlt)
      have HT2 : Hid (live now (zs.take (j + 1)) = if now < zs[j].2.2.2 then live now (zs.take j) ++ [zs[j]] else live now (zs.take j)) := by show _ = _; rw [HT.out, live_snoc]
      clear HT
      have lb : b < wr.heap.size := by omega
      generalize live now (zs.take j) = os at *
      generalize hq : zs[j] = q at *
      obtain ⟨x0, x1, x2, x3⟩ := q
      simp only at q0 q1 q2 q3 HT2
      by_cases hk : now < x3
      · have d1 : decide (x3 ≤ now) = false := by simp; omega
        go_wp2_with (first
          | (go_at_call 108; refine (late _ _ _).mono ?_; rintro e w' ⟨rfl, rfl⟩)
          | (at_builtin; refine wpList_append_own _ rfl _ _ 110 rfl (w.heap.size) 143 i0 (.agg #[.int .i64 0, .int .i64 0, .int .i64 0, .int .u64 0]) 4 32 HE.out.ut HE.out.info HE.out.zero HE.out.sz HE.out.by_ HE.out.cells HE.out.pos _ _ _ rfl ((HO.out.alloc _).alloc _) ⟨wr.heap.size + 1, 0, none⟩ 1 1 (Law.cellsS (x0, x1, x2, x3)) rfl rfl (Law.new_fourAt _ (x0, x1, x2, x3) _ (by simp)) (Law.four_one _) (by unfold maxLen; omega) (by omega) (by simp; omega) ?_))
        intro v' w2 hown2 hgrow _
        have B2 := Lib.hid (((HB.out.alloc sb (.cells #[.int .i64 x0, .int .i64 x1, .int .i64 x2, .int .u64 x3] 143)).alloc (by simp; omega) (.cells #[.int .i64 x0, .int .i64 x1, .int .i64 x2, .int .u64 x3] 143)).grown hgrow (by simp; omega) (fun g hg => (HO.out.lt g hg).1))
        have HO2 : Hid (Row w2 w.heap.size v' (os ++ [(x0, x1, x2, x3)])) := by
          show World.ownsRow _ _ _ _ _ _ _
          rw [flatS_snoc]
          simpa using hown2
        obtain ⟨g', cap', rfl⟩ := ownsRow_succ hown2
        clear hown2 hgrow
        go_wp2_with fail
        go_roundw
        case rel => exact ⟨j + 1, by omega, by go_num, by rw [HT2.out, if_pos hk]; exact HO2.out, B2.out⟩
        case measure => simp [intOf]; omega
      · have d1 : decide (x3 ≤ now) = true := by simp; omega
        have B2 := Lib.hid (HB.out.alloc sb (.cells #[.int .i64 x0, .int .i64 x1, .int .i64 x2, .int .u64 x3] 143))
        have HO2 := Lib.hid (HO.out.alloc (.cells #[.int .i64 x0, .int .i64 x1, .int .i64 x2, .int .u64 x3] 143))
        go_wp2_with (go_at_call 108; refine (late _ _ _).mono ?_; rintro e w' ⟨rfl, rfl⟩)
        go_roundw
        case rel => exact ⟨j + 1, by omega, by go_num, by rw [HT2.out, if_neg (by omega)]; exact HO2.out, B2.out⟩
        case measure => simp [intOf]; omega
    · have e1 : zs.take j = zs := List.take_of_length_le (by omega)
      rw [e1] at HO
      obtain ⟨A1, c1, rfl, _⟩ := own_shape HO.out
      go_wp2_with fail
      go_ret
      exact ⟨A1, c1, rfl, HO.out, HB.out⟩

set_option maxRecDepth 100000 in
set_option maxHeartbeats 1600000 in
theorem setOver (s : Sn) (most : Int) (zs : List Sn) (A : Option Addr) (c : Nat) (w : World) (hs : Seq w 0 w.heap.size A (flatS zs)) (hl : zs.length ≤ 900) (hu : Up zs) (hh : hasS s.1 zs = true) :
    Calls Tryz.prog 121 #[.slice A zs.length c, V s, .int .i64 most] w (Listed2 w (put s zs) 0) := by
  have HS := Lib.hid hs
  rw [has_at] at hh
  have hat : atS s.1 zs < zs.length := by simpa using hh
  have HPut := Lib.hid (put_at s hu hat)
  obtain ⟨x0, x1, x2, x3⟩ := s
  simp only at hat HPut
  unfold V
  clear hs hh hu
  have B0 := (Below.refl w.heap.size w).alloc (Nat.le_refl _) (.cells #[.int .i64 x0, .int .i64 x1, .int .i64 x2, .int .u64 x3] 143)
  have I0 : Is (w.alloc (.cells #[.int .i64 x0, .int .i64 x1, .int .i64 x2, .int .u64 x3] 143)) w.heap.size 143 #[.int .i64 x0, .int .i64 x1, .int .i64 x2, .int .u64 x3] := Is.new _ _ _ rfl
  go_enter Tryz.func121, Tryz.ntmps121
  go_wp2_with fail
  generalize w.alloc (.cells #[.int .i64 x0, .int .i64 x1, .int .i64 x2, .int .u64 x3] 143) = w0 at *
  refine (copied zs A c w0 ((HS.out.below B0).more B0.size) (by omega)).mono ?_
  rintro e w1 ⟨rfl, k1, b1⟩
  have I1 := I0.below b1 I0.lt
  have B1 := Lib.hid (B0.trans (b1.mono B0.size))
  have gk : w.heap.size < w0.heap.size := I0.lt
  have K1 := Lib.hid k1
  generalize w0.heap.size = g at *
  have J1 := Lib.hid I1
  have c0 : w1.cell? ⟨w.heap.size, 0, none⟩ = some (.int .i64 x0) := I1.cell' rfl
  clear I0 I1 B0 b1 k1
  go_wp2_with (go_at_call 134; refine (of_ _ _).mono ?_; rintro e w' ⟨rfl, rfl⟩)
  have b1a := (Below.refl w1.heap.size w1).alloc (Nat.le_refl _) (.cells #[.int .i64 x0] 3)
  have K1a := K1.out.below b1a K1.out.lt
  refine (whereOf x0 w1.heap.size zs (some ⟨g, 0, none⟩) zs.length _ ((Is.new w1 3 #[.int .i64 x0] rfl).cell' rfl) ((K1a.seqS.from_ (Nat.zero_le _)).more K1a.lt) (by unfold maxLen; omega)).mono ?_
  rintro e w2 ⟨rfl, b2⟩
  have b12 : Below w1.heap.size w1 w2 := b1a.trans (b2.mono (by simp))
  have K2 := Lib.hid (K1.out.below b12 K1.out.lt)
  have J2 := J1.out.below b12 J1.out.lt
  have HJ2 := Lib.hid J2
  have B2 := Lib.hid (B1.out.trans (b12.mono B1.out.size))
  have l2 := J2.lt
  have lk := K2.out.lt
  have d0 : w2.cell? ⟨w.heap.size, 0, none⟩ = some (.int .i64 x0) := J2.cell' rfl
  have d1 : w2.cell? ⟨w.heap.size, 1, none⟩ = some (.int .i64 x1) := J2.cell' rfl
  have d2 : w2.cell? ⟨w.heap.size, 2, none⟩ = some (.int .i64 x2) := J2.cell' rfl
  have d3 : w2.cell? ⟨w.heap.size, 3, none⟩ = some (.int .u64 x3) := J2.cell' rfl
  clear c0 b1a K1a b2 b12 K1 J1 B1 J2
  generalize atS x0 zs = at_ at *
  obtain ⟨b', off', e', _, _, e0, e1, e2, e3⟩ := K2.out.seqS.ses hat
  obtain ⟨rfl, rfl⟩ : g = b' ∧ 0 = off' := by injection e' with e'; injection e' with e1 e2; exact ⟨e1, e2⟩
  rw [Nat.zero_add] at e0 e1 e2 e3
  clear e'
  have f0 := K2.out.frozen (at_ * 4)
  have f1 := K2.out.frozen (at_ * 4 + 1)
  have f2 := K2.out.frozen (at_ * 4 + 2)
  have f3 := K2.out.frozen (at_ * 4 + 3)
  have hn : ¬ (w.heap.size = g) := by omega
  go_wp2_with fail
  have HF : Hid (Is ((((w2.setCell ⟨g, at_ * 4, none⟩ (.int .i64 x0)).setCell ⟨g, at_ * 4 + 1, none⟩ (.int .i64 x1)).setCell ⟨g, at_ * 4 + 2, none⟩ (.int .i64 x2)).setCell ⟨g, at_ * 4 + 3, none⟩ (.int .u64 x3)) g 143 (flatS (zs.set at_ (x0, x1, x2, x3))).toArray) :=
    (((K2.out.set _ _ rfl).set _ _ rfl).set _ _ rfl).set _ _ (flatS_set zs at_ (x0, x1, x2, x3) hat)
  have HB : Hid (Below w.heap.size w ((((w2.setCell ⟨g, at_ * 4, none⟩ (.int .i64 x0)).setCell ⟨g, at_ * 4 + 1, none⟩ (.int .i64 x1)).setCell ⟨g, at_ * 4 + 2, none⟩ (.int .i64 x2)).setCell ⟨g, at_ * 4 + 3, none⟩ (.int .u64 x3))) :=
    (((B2.out.setCell (p := ⟨g, at_ * 4, none⟩) (by simp; omega) _).setCell (p := ⟨g, at_ * 4 + 1, none⟩) (by simp; omega) _).setCell (p := ⟨g, at_ * 4 + 2, none⟩) (by simp; omega) _).setCell (p := ⟨g, at_ * 4 + 3, none⟩) (by simp; omega) _
  refine bodyPost_ret (v := .tuple #[.slice (some ⟨g, 0, none⟩) zs.length zs.length, .int .i64 0]) (by simp [results, Tryz.results121, go_sem]) rfl ?_
  have hlen : (zs.set at_ (x0, x1, x2, x3)).length = zs.length := by simp
  refine ⟨some ⟨g, 0, none⟩, zs.length, ?_, ?_, HB.out⟩
  · rw [HPut.out, hlen]
  · rw [HPut.out]
    have h5 := HF.out.row (base := w.heap.size) (by omega) (by rw [hlen]; unfold maxLen; omega)
    rw [hlen] at h5 ⊢
    show World.ownsRow _ _ _ _ _ _ _
    rw [hlen]
    exact h5

set_option maxRecDepth 100000 in
set_option maxHeartbeats 1600000 in
theorem setFull (s : Sn) (most : Int) (zs : List Sn) (A : Option Addr) (c : Nat) (w : World) (hs : Seq w 0 w.heap.size A (flatS zs)) (hl : zs.length ≤ 900) (hh : hasS s.1 zs = false) (hm : most ≤ (zs.length : Int)) :
    Calls Tryz.prog 121 #[.slice A zs.length c, V s, .int .i64 most] w (Listed2 w zs 2) := by
  have HS := Lib.hid hs
  rw [has_at] at hh
  have hat : atS s.1 zs = zs.length := by have := atS_le s.1 zs; simp at hh; omega
  obtain ⟨x0, x1, x2, x3⟩ := s
  simp only at hat
  unfold V
  clear hs hh
  have B0 := (Below.refl w.heap.size w).alloc (Nat.le_refl _) (.cells #[.int .i64 x0, .int .i64 x1, .int .i64 x2, .int .u64 x3] 143)
  have I0 : Is (w.alloc (.cells #[.int .i64 x0, .int .i64 x1, .int .i64 x2, .int .u64 x3] 143)) w.heap.size 143 #[.int .i64 x0, .int .i64 x1, .int .i64 x2, .int .u64 x3] := Is.new _ _ _ rfl
  go_enter Tryz.func121, Tryz.ntmps121
  go_wp2_with fail
  generalize w.alloc (.cells #[.int .i64 x0, .int .i64 x1, .int .i64 x2, .int .u64 x3] 143) = w0 at *
  refine (copied zs A c w0 ((HS.out.below B0).more B0.size) (by omega)).mono ?_
  rintro e w1 ⟨rfl, k1, b1⟩
  have I1 := I0.below b1 I0.lt
  have B1 := Lib.hid (B0.trans (b1.mono B0.size))
  have gk : w.heap.size < w0.heap.size := I0.lt
  have K1 := Lib.hid k1
  generalize w0.heap.size = g at *
  have J1 := Lib.hid I1
  have c0 : w1.cell? ⟨w.heap.size, 0, none⟩ = some (.int .i64 x0) := I1.cell' rfl
  clear I0 I1 B0 b1 k1
  go_wp2_with (go_at_call 134; refine (of_ _ _).mono ?_; rintro e w' ⟨rfl, rfl⟩)
  have b1a := (Below.refl w1.heap.size w1).alloc (Nat.le_refl _) (.cells #[.int .i64 x0] 3)
  have K1a := K1.out.below b1a K1.out.lt
  refine (whereOf x0 w1.heap.size zs (some ⟨g, 0, none⟩) zs.length _ ((Is.new w1 3 #[.int .i64 x0] rfl).cell' rfl) ((K1a.seqS.from_ (Nat.zero_le _)).more K1a.lt) (by unfold maxLen; omega)).mono ?_
  rintro e w2 ⟨rfl, b2⟩
  have b12 : Below w1.heap.size w1 w2 := b1a.trans (b2.mono (by simp))
  have K2 := Lib.hid (K1.out.below b12 K1.out.lt)
  have J2 := J1.out.below b12 J1.out.lt
  have HJ2 := Lib.hid J2
  have B2 := Lib.hid (B1.out.trans (b12.mono B1.out.size))
  have l2 := J2.lt
  have lk := K2.out.lt
  have d0 : w2.cell? ⟨w.heap.size, 0, none⟩ = some (.int .i64 x0) := J2.cell' rfl
  have d1 : w2.cell? ⟨w.heap.size, 1, none⟩ = some (.int .i64 x1) := J2.cell' rfl
  have d2 : w2.cell? ⟨w.heap.size, 2, none⟩ = some (.int .i64 x2) := J2.cell' rfl
  have d3 : w2.cell? ⟨w.heap.size, 3, none⟩ = some (.int .u64 x3) := J2.cell' rfl
  clear c0 b1a K1a b2 b12 K1 J1 B1 J2
  rw [hat]
  clear hat
  go_wp2_with fail
  refine bodyPost_ret (v := .tuple #[.slice (some ⟨g, 0, none⟩) zs.length zs.length, .int .i64 2]) (by simp [results, Tryz.results121, go_sem]) rfl ?_
  exact ⟨some ⟨g, 0, none⟩, zs.length, rfl, K2.out.row (by omega) (by unfold maxLen; omega), B2.out⟩

set_option maxRecDepth 100000 in
set_option maxHeartbeats 1600000 in
theorem setNew (s : Sn) (most : Int) (zs : List Sn) (A : Option Addr) (c : Nat) (w : World) (hs : Seq w 0 w.heap.size A (flatS zs)) (hl : zs.length ≤ 900) (hh : hasS s.1 zs = false) (hm : (zs.length : Int) < most) :
    Calls Tryz.prog 121 #[.slice A zs.length c, V s, .int .i64 most] w (Listed2 w (put s zs) 0) := by
  have HS := Lib.hid hs
  rw [has_at] at hh
  have hat : atS s.1 zs = zs.length := by have := atS_le s.1 zs; simp at hh; omega
  have HPut := Lib.hid (put_past s hat)
  obtain ⟨x0, x1, x2, x3⟩ := s
  simp only at hat HPut
  unfold V
  clear hs hh
  have B0 := (Below.refl w.heap.size w).alloc (Nat.le_refl _) (.cells #[.int .i64 x0, .int .i64 x1, .int .i64 x2, .int .u64 x3] 143)
  have I0 : Is (w.alloc (.cells #[.int .i64 x0, .int .i64 x1, .int .i64 x2, .int .u64 x3] 143)) w.heap.size 143 #[.int .i64 x0, .int .i64 x1, .int .i64 x2, .int .u64 x3] := Is.new _ _ _ rfl
  go_enter Tryz.func121, Tryz.ntmps121
  go_wp2_with fail
  generalize w.alloc (.cells #[.int .i64 x0, .int .i64 x1, .int .i64 x2, .int .u64 x3] 143) = w0 at *
  refine (copied zs A c w0 ((HS.out.below B0).more B0.size) (by omega)).mono ?_
  rintro e w1 ⟨rfl, k1, b1⟩
  have I1 := I0.below b1 I0.lt
  have B1 := Lib.hid (B0.trans (b1.mono B0.size))
  have gk : w.heap.size < w0.heap.size := I0.lt
  have K1 := Lib.hid k1
  generalize w0.heap.size = g at *
  have J1 := Lib.hid I1
  have c0 : w1.cell? ⟨w.heap.size, 0, none⟩ = some (.int .i64 x0) := I1.cell' rfl
  clear I0 I1 B0 b1 k1
  go_wp2_with (go_at_call 134; refine (of_ _ _).mono ?_; rintro e w' ⟨rfl, rfl⟩)
  have b1a := (Below.refl w1.heap.size w1).alloc (Nat.le_refl _) (.cells #[.int .i64 x0] 3)
  have K1a := K1.out.below b1a K1.out.lt
  refine (whereOf x0 w1.heap.size zs (some ⟨g, 0, none⟩) zs.length _ ((Is.new w1 3 #[.int .i64 x0] rfl).cell' rfl) ((K1a.seqS.from_ (Nat.zero_le _)).more K1a.lt) (by unfold maxLen; omega)).mono ?_
  rintro e w2 ⟨rfl, b2⟩
  have b12 : Below w1.heap.size w1 w2 := b1a.trans (b2.mono (by simp))
  have K2 := Lib.hid (K1.out.below b12 K1.out.lt)
  have J2 := J1.out.below b12 J1.out.lt
  have HJ2 := Lib.hid J2
  have B2 := Lib.hid (B1.out.trans (b12.mono B1.out.size))
  have l2 := J2.lt
  have lk := K2.out.lt
  have d0 : w2.cell? ⟨w.heap.size, 0, none⟩ = some (.int .i64 x0) := J2.cell' rfl
  have d1 : w2.cell? ⟨w.heap.size, 1, none⟩ = some (.int .i64 x1) := J2.cell' rfl
  have d2 : w2.cell? ⟨w.heap.size, 2, none⟩ = some (.int .i64 x2) := J2.cell' rfl
  have d3 : w2.cell? ⟨w.heap.size, 3, none⟩ = some (.int .u64 x3) := J2.cell' rfl
  clear c0 b1a K1a b2 b12 K1 J1 B1 J2
  rw [hat]
  clear hat
  go_upto_region 8 with (fail)
  have hpl := pastS_le x0 zs
  have HIns : Hid (∀ p W, Is W g 143 (flatS zs).toArray → Is W p 143 #[.int .i64 x0, .int .i64 x1, .int .i64 x2, .int .u64 x3] → Calls Tryz.prog 135 #[.slice (some ⟨g, 0, none⟩) zs.length zs.length, .int .i64 (pastS x0 zs : Int), .slice (some ⟨p, 0, none⟩) 1 1] W (Listed W W.heap.size (zs.take (pastS x0 zs) ++ (x0, x1, x2, x3) :: zs.drop (pastS x0 zs)))) :=
    fun p W hg hp => insert zs (x0, x1, x2, x3) (pastS x0 zs) g p W hg hp (by omega) hpl
  generalize zs.take (pastS x0 zs) ++ (x0, x1, x2, x3) :: zs.drop (pastS x0 zs) = us at *
  have HA : Hid (Is ((w2.alloc (.cells #[.int .i64 x0] 3)).drew) w2.heap.size 3 #[.int .i64 x0] ∧ Is ((w2.alloc (.cells #[.int .i64 x0] 3)).drew) g 143 (flatS zs).toArray ∧ Is ((w2.alloc (.cells #[.int .i64 x0] 3)).drew) w.heap.size 143 #[.int .i64 x0, .int .i64 x1, .int .i64 x2, .int .u64 x3] ∧ Below w2.heap.size w2 ((w2.alloc (.cells #[.int .i64 x0] 3)).drew)) :=
    ⟨(Is.new _ _ _ rfl).drew, (K2.out.alloc _).drew, (HJ2.out.alloc _).drew, ((Below.refl _ w2).alloc (Nat.le_refl _) _).drew⟩
  have HBB : Hid (Is (((w2.alloc (.cells #[.int .i64 x0] 3)).alloc (.cells #[.int .i64 x0, .int .i64 x1, .int .i64 x2, .int .u64 x3] 143)).drew) w2.heap.size 3 #[.int .i64 x0] ∧ Is (((w2.alloc (.cells #[.int .i64 x0] 3)).alloc (.cells #[.int .i64 x0, .int .i64 x1, .int .i64 x2, .int .u64 x3] 143)).drew) g 143 (flatS zs).toArray ∧ Is (((w2.alloc (.cells #[.int .i64 x0] 3)).alloc (.cells #[.int .i64 x0, .int .i64 x1, .int .i64 x2, .int .u64 x3] 143)).drew) w.heap.size 143 #[.int .i64 x0, .int .i64 x1, .int .i64 x2, .int .u64 x3] ∧ Below w2.heap.size w2 (((w2.alloc (.cells #[.int .i64 x0] 3)).alloc (.cells #[.int .i64 x0, .int .i64 x1, .int .i64 x2, .int .u64 x3] 143)).drew)) :=
    ⟨((Is.new _ _ _ rfl).alloc _).drew, ((K2.out.alloc _).alloc _).drew, ((HJ2.out.alloc _).alloc _).drew, (((Below.refl _ w2).alloc (Nat.le_refl _) _).alloc (by simp) _).drew⟩
  have HCC : Hid (Is (((w2.alloc (.cells #[.int .i64 x0, .int .i64 x1, .int .i64 x2, .int .u64 x3] 143)).alloc (.cells #[.int .i64 x0] 3)).drew) (w2.heap.size + 1) 3 #[.int .i64 x0] ∧ Is (((w2.alloc (.cells #[.int .i64 x0, .int .i64 x1, .int .i64 x2, .int .u64 x3] 143)).alloc (.cells #[.int .i64 x0] 3)).drew) g 143 (flatS zs).toArray ∧ Is (((w2.alloc (.cells #[.int .i64 x0, .int .i64 x1, .int .i64 x2, .int .u64 x3] 143)).alloc (.cells #[.int .i64 x0] 3)).drew) w.heap.size 143 #[.int .i64 x0, .int .i64 x1, .int .i64 x2, .int .u64 x3] ∧ Below w2.heap.size w2 (((w2.alloc (.cells #[.int .i64 x0, .int .i64 x1, .int .i64 x2, .int .u64 x3] 143)).alloc (.cells #[.int .i64 x0] 3)).drew)) :=
    ⟨(Is.new _ _ _ (by simp)).drew, ((K2.out.alloc _).alloc _).drew, ((HJ2.out.alloc _).alloc _).drew, (((Below.refl _ w2).alloc (Nat.le_refl _) _).alloc (by simp) _).drew⟩
  have CHA := Lib.hid (wherePast x0 w2.heap.size zs (some ⟨g, 0, none⟩) zs.length ((w2.alloc (.cells #[.int .i64 x0] 3)).drew) (HA.out.1.cell' rfl) ((HA.out.2.1.seqS.from_ (Nat.zero_le _)).more HA.out.2.1.lt) (by unfold maxLen; omega))
  have CHBB := Lib.hid (wherePast x0 w2.heap.size zs (some ⟨g, 0, none⟩) zs.length (((w2.alloc (.cells #[.int .i64 x0] 3)).alloc (.cells #[.int .i64 x0, .int .i64 x1, .int .i64 x2, .int .u64 x3] 143)).drew) (HBB.out.1.cell' rfl) ((HBB.out.2.1.seqS.from_ (Nat.zero_le _)).more HBB.out.2.1.lt) (by unfold maxLen; omega))
  have CHCC := Lib.hid (wherePast x0 (w2.heap.size + 1) zs (some ⟨g, 0, none⟩) zs.length (((w2.alloc (.cells #[.int .i64 x0, .int .i64 x1, .int .i64 x2, .int .u64 x3] 143)).alloc (.cells #[.int .i64 x0] 3)).drew) (HCC.out.1.cell' rfl) ((HCC.out.2.1.seqS.from_ (Nat.zero_le _)).more HCC.out.2.1.lt) (by unfold maxLen; omega))
  have HBP : Hid (Is (((w2.alloc (.cells #[.int .i64 x0] 3)).alloc (.cells #[.int .i64 x0, .int .i64 x1, .int .i64 x2, .int .u64 x3] 143)).drew) (w2.heap.size + 1) 143 #[.int .i64 x0, .int .i64 x1, .int .i64 x2, .int .u64 x3]) := (Is.new _ _ _ (by simp)).drew
  have HCP : Hid (Is (((w2.alloc (.cells #[.int .i64 x0, .int .i64 x1, .int .i64 x2, .int .u64 x3] 143)).alloc (.cells #[.int .i64 x0] 3)).drew) w2.heap.size 143 #[.int .i64 x0, .int .i64 x1, .int .i64 x2, .int .u64 x3]) := ((Is.new _ _ _ rfl).alloc _).drew
  go_region_held3 (fun w' => w'.cell? ⟨w.heap.size, 0, none⟩ = some (.int .i64 x0) ∧ w'.cell? ⟨w.heap.size, 1, none⟩ = some (.int .i64 x1) ∧ w'.cell? ⟨w.heap.size, 2, none⟩ = some (.int .i64 x2) ∧ w'.cell? ⟨w.heap.size, 3, none⟩ = some (.int .u64 x3)) (first | (go_simp; done) | (go_keep; done)) (first
    | (go_at_call 136; refine (beyond _ _).mono ?_; rintro e v ⟨rfl, rfl⟩)
    | (go_at_call 133; with_reducible refine CHA.out.mono ?_; rintro e v2 ⟨rfl, b2⟩; have K5 := Lib.hid (HA.out.2.1.below b2 HA.out.2.1.lt); have J5 := HA.out.2.2.1.below b2 HA.out.2.2.1.lt; have B5 := Lib.hid (HA.out.2.2.2.trans (b2.mono HA.out.2.2.2.size)); have l5 := J5.lt; have lk5 := K5.out.lt; have s5 := B5.out.size; have a0 : v2.cell? ⟨w.heap.size, 0, none⟩ = some (.int .i64 x0) := J5.cell' rfl; have a1 : v2.cell? ⟨w.heap.size, 1, none⟩ = some (.int .i64 x1) := J5.cell' rfl; have a2 : v2.cell? ⟨w.heap.size, 2, none⟩ = some (.int .i64 x2) := J5.cell' rfl; have a3 : v2.cell? ⟨w.heap.size, 3, none⟩ = some (.int .u64 x3) := J5.cell' rfl; clear b2 J5)
    | (go_at_call 133; with_reducible refine CHBB.out.mono ?_; rintro e v2 ⟨rfl, b2⟩; have K5 := Lib.hid (HBB.out.2.1.below b2 HBB.out.2.1.lt); have J5 := HBB.out.2.2.1.below b2 HBB.out.2.2.1.lt; have B5 := Lib.hid (HBB.out.2.2.2.trans (b2.mono HBB.out.2.2.2.size)); have P5b := Lib.hid (HBP.out.below b2 HBP.out.lt); have l5 := J5.lt; have lk5 := K5.out.lt; have s5 := B5.out.size; have a0 : v2.cell? ⟨w.heap.size, 0, none⟩ = some (.int .i64 x0) := J5.cell' rfl; have a1 : v2.cell? ⟨w.heap.size, 1, none⟩ = some (.int .i64 x1) := J5.cell' rfl; have a2 : v2.cell? ⟨w.heap.size, 2, none⟩ = some (.int .i64 x2) := J5.cell' rfl; have a3 : v2.cell? ⟨w.heap.size, 3, none⟩ = some (.int .u64 x3) := J5.cell' rfl; clear b2 J5)
    | (go_at_call 133; with_reducible refine CHCC.out.mono ?_; rintro e v2 ⟨rfl, b2⟩; have K5 := Lib.hid (HCC.out.2.1.below b2 HCC.out.2.1.lt); have J5 := HCC.out.2.2.1.below b2 HCC.out.2.2.1.lt; have B5 := Lib.hid (HCC.out.2.2.2.trans (b2.mono HCC.out.2.2.2.size)); have P5c := Lib.hid (HCP.out.below b2 HCP.out.lt); have l5 := J5.lt; have lk5 := K5.out.lt; have s5 := B5.out.size; have a0 : v2.cell? ⟨w.heap.size, 0, none⟩ = some (.int .i64 x0) := J5.cell' rfl; have a1 : v2.cell? ⟨w.heap.size, 1, none⟩ = some (.int .i64 x1) := J5.cell' rfl; have a2 : v2.cell? ⟨w.heap.size, 2, none⟩ = some (.int .i64 x2) := J5.cell' rfl; have a3 : v2.cell? ⟨w.heap.size, 3, none⟩ = some (.int .u64 x3) := J5.cell' rfl; clear b2 J5)
    | (go_at_call 135; have t4 := HIns.out (w2.heap.size + 1) (v2) K5.out P5b.out; refine t4.mono ?_; clear t4; rintro e v3 ⟨A3, c3, rfl, r3, b3⟩; have B6 : Hid (Below w2.heap.size w2 v3) := (B5.out).trans (b3.mono (B5.out).size); have R6 : Hid (Row v3 w.heap.size (.slice A3 us.length c3) us) := own_base r3 (by have := (B5.out).size; omega); have F6 : v3.cell? ⟨w.heap.size, 0, none⟩ = some (.int .i64 x0) ∧ v3.cell? ⟨w.heap.size, 1, none⟩ = some (.int .i64 x1) ∧ v3.cell? ⟨w.heap.size, 2, none⟩ = some (.int .i64 x2) ∧ v3.cell? ⟨w.heap.size, 3, none⟩ = some (.int .u64 x3) := ⟨(B6.out.cell (p := ⟨w.heap.size, 0, none⟩) l2).trans d0, (B6.out.cell (p := ⟨w.heap.size, 1, none⟩) l2).trans d1, (B6.out.cell (p := ⟨w.heap.size, 2, none⟩) l2).trans d2, (B6.out.cell (p := ⟨w.heap.size, 3, none⟩) l2).trans d3⟩; obtain ⟨g0, g1, g2, g3⟩ := F6; clear r3 b3)
    | (go_at_call 135; have t4 := HIns.out w2.heap.size (v2) K5.out P5c.out; refine t4.mono ?_; clear t4; rintro e v3 ⟨A3, c3, rfl, r3, b3⟩; have B6 : Hid (Below w2.heap.size w2 v3) := (B5.out).trans (b3.mono (B5.out).size); have R6 : Hid (Row v3 w.heap.size (.slice A3 us.length c3) us) := own_base r3 (by have := (B5.out).size; omega); have F6 : v3.cell? ⟨w.heap.size, 0, none⟩ = some (.int .i64 x0) ∧ v3.cell? ⟨w.heap.size, 1, none⟩ = some (.int .i64 x1) ∧ v3.cell? ⟨w.heap.size, 2, none⟩ = some (.int .i64 x2) ∧ v3.cell? ⟨w.heap.size, 3, none⟩ = some (.int .u64 x3) := ⟨(B6.out.cell (p := ⟨w.heap.size, 0, none⟩) l2).trans d0, (B6.out.cell (p := ⟨w.heap.size, 1, none⟩) l2).trans d1, (B6.out.cell (p := ⟨w.heap.size, 2, none⟩) l2).trans d2, (B6.out.cell (p := ⟨w.heap.size, 3, none⟩) l2).trans d3⟩; obtain ⟨g0, g1, g2, g3⟩ := F6; clear r3 b3)
    | (go_at_call 135; have t4 := HIns.out v2.heap.size (v2.alloc (.cells #[.int .i64 x0, .int .i64 x1, .int .i64 x2, .int .u64 x3] 143)) (K5.out.alloc _) (Is.new _ _ _ rfl); refine t4.mono ?_; clear t4; rintro e v3 ⟨A3, c3, rfl, r3, b3⟩; have B6 : Hid (Below w2.heap.size w2 v3) := (B5.out.alloc s5 (.cells #[.int .i64 x0, .int .i64 x1, .int .i64 x2, .int .u64 x3] 143)).trans (b3.mono (B5.out.alloc s5 (.cells #[.int .i64 x0, .int .i64 x1, .int .i64 x2, .int .u64 x3] 143)).size); have R6 : Hid (Row v3 w.heap.size (.slice A3 us.length c3) us) := own_base r3 (by have := (B5.out.alloc s5 (.cells #[.int .i64 x0, .int .i64 x1, .int .i64 x2, .int .u64 x3] 143)).size; omega); have F6 : v3.cell? ⟨w.heap.size, 0, none⟩ = some (.int .i64 x0) ∧ v3.cell? ⟨w.heap.size, 1, none⟩ = some (.int .i64 x1) ∧ v3.cell? ⟨w.heap.size, 2, none⟩ = some (.int .i64 x2) ∧ v3.cell? ⟨w.heap.size, 3, none⟩ = some (.int .u64 x3) := ⟨(B6.out.cell (p := ⟨w.heap.size, 0, none⟩) l2).trans d0, (B6.out.cell (p := ⟨w.heap.size, 1, none⟩) l2).trans d1, (B6.out.cell (p := ⟨w.heap.size, 2, none⟩) l2).trans d2, (B6.out.cell (p := ⟨w.heap.size, 3, none⟩) l2).trans d3⟩; obtain ⟨g0, g1, g2, g3⟩ := F6; clear r3 b3)
    | fail)
  all_goals
    have B7 := Lib.hid (B2.out.trans (B6.out.mono B2.out.size))
    go_wp2_with fail
    refine bodyPost_ret (v := .tuple #[.slice A3 us.length c3, .int .i64 0]) (by simp [results, Tryz.results121, go_sem]) rfl ?_
    exact ⟨A3, c3, by rw [HPut.out], by rw [HPut.out]; exact R6.out, B7.out⟩
end Sess
end Go.Proofs.YtdkjcheannehhaaGreat
