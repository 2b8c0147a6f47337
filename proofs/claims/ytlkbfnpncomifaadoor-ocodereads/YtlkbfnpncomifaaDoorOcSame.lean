/-
  The reference's Same (layer 12), where two scripts are alike.
-/
import Derived.Test.YtlkbfnpncomifaaDoorOcMem
import Derived.Test.YtlkbfnpncomifaaDoorOcRef
import Derived.StillTailTactics
namespace Go.Proofs.YtlkbfnpncomifaaDoor
open Go.RowKit Go.Lib
attribute [local go_sem] Oper.semAt_some
namespace Opx
open Go.Law
theorem Lain.str {w : World} {A : Option Addr} {us : List ByteArray} {i : Nat} (h : Lain 9 w A (us.map .string)) (hi : i < us.length) : ∃ b off, A = some ⟨b, off, none⟩ ∧ b < w.heap.size ∧ w.cell? ⟨b, off + i, none⟩ = some (.string us[i]) := by
  obtain ⟨b, off, hA, _, h2, hc⟩ := h.seq.str hi
  exact ⟨b, off, hA, h2, hc⟩
set_option maxRecDepth 100000 in
set_option maxHeartbeats 4000000 in
theorem sameOps (kd id st pr ttl : Int) (user : ByteArray) (us : List ByteArray) (A1 A2 : Option Addr) (c1 c2 : Nat) (w : World) (h1 : Lain 9 w A1 (us.map .string)) (h2 : Lain 9 w A2 (us.map .string)) (hl : us.length ≤ 1000) :
    Calls Tryd.prog 19 #[.agg #[.int .i64 kd, .string user, .int .i64 id, .int .i64 st, .int .i64 pr, .int .u64 ttl, .slice A1 us.length c1], .agg #[.int .i64 kd, .string user, .int .i64 id, .int .i64 st, .int .i64 pr, .int .u64 ttl, .slice A2 us.length c2]] w fun e w' => e = .returned (.bool true) ∧ Below w.heap.size w w' := by
  have b1 := (Below.refl w.heap.size w).alloc (Nat.le_refl _) (.cells #[.int .i64 kd, .string user, .int .i64 id, .int .i64 st, .int .i64 pr, .int .u64 ttl, .slice A1 us.length c1] 49)
  have b2 := b1.alloc (by simp) (.cells #[.int .i64 kd, .string user, .int .i64 id, .int .i64 st, .int .i64 pr, .int .u64 ttl, .slice A2 us.length c2] 49)
  have HB := Lib.hid b2
  have HX1 := Lib.hid (show Is ((w.alloc (.cells #[.int .i64 kd, .string user, .int .i64 id, .int .i64 st, .int .i64 pr, .int .u64 ttl, .slice A1 us.length c1] 49)).alloc (.cells #[.int .i64 kd, .string user, .int .i64 id, .int .i64 st, .int .i64 pr, .int .u64 ttl, .slice A2 us.length c2] 49)) w.heap.size 49 #[.int .i64 kd, .string user, .int .i64 id, .int .i64 st, .int .i64 pr, .int .u64 ttl, .slice A1 us.length c1] from (Is.new w _ _ rfl).alloc _)
  have HX2 := Lib.hid (show Is ((w.alloc (.cells #[.int .i64 kd, .string user, .int .i64 id, .int .i64 st, .int .i64 pr, .int .u64 ttl, .slice A1 us.length c1] 49)).alloc (.cells #[.int .i64 kd, .string user, .int .i64 id, .int .i64 st, .int .i64 pr, .int .u64 ttl, .slice A2 us.length c2] 49)) (w.heap.size + 1) 49 #[.int .i64 kd, .string user, .int .i64 id, .int .i64 st, .int .i64 pr, .int .u64 ttl, .slice A2 us.length c2] from Is.new _ _ _ (by simp))
  have H1 := Lib.hid (h1.now b2)
  have H2 := Lib.hid (h2.now b2)
  clear h1 h2 b1 b2
  go_enter Tryd.func19, Tryd.ntmps19
  go_wp2_with fail
  generalize ((w.alloc (.cells #[.int .i64 kd, .string user, .int .i64 id, .int .i64 st, .int .i64 pr, .int .u64 ttl, .slice A1 us.length c1] 49)).alloc (.cells #[.int .i64 kd, .string user, .int .i64 id, .int .i64 st, .int .i64 pr, .int .u64 ttl, .slice A2 us.length c2] 49)) = w1 at *
  have x10 := HX1.out.cell' (i := 0) rfl
  have x20 := HX2.out.cell' (i := 0) rfl
  have x11 := HX1.out.cell' (i := 1) rfl
  have x21 := HX2.out.cell' (i := 1) rfl
  have x12 := HX1.out.cell' (i := 2) rfl
  have x22 := HX2.out.cell' (i := 2) rfl
  have x13 := HX1.out.cell' (i := 3) rfl
  have x23 := HX2.out.cell' (i := 3) rfl
  have x14 := HX1.out.cell' (i := 4) rfl
  have x24 := HX2.out.cell' (i := 4) rfl
  have x15 := HX1.out.cell' (i := 5) rfl
  have x25 := HX2.out.cell' (i := 5) rfl
  have x16 := HX1.out.cell' (i := 6) rfl
  have x26 := HX2.out.cell' (i := 6) rfl
  have l1 := HX1.out.lt
  have l2 := HX2.out.lt
  go_wp2_with fail
  clear x16 x26 l1 l2
  clear x10 x11 x12 x13 x14 x15 x20 x21 x22 x23 x24 x25
  go_loopw [5] (fun i wr => ∃ j : Nat, j ≤ us.length ∧ i = .int .i64 j ∧ Below w1.heap.size w1 wr) (fun i _ => us.length - (RowKit.intOf i).toNat)
  case atStart => exact ⟨0, Nat.zero_le _, rfl, Below.refl _ _⟩
  case round =>
    obtain ⟨j, hj, rfl, hw⟩ := hrel
    have HW := Lib.hid hw
    have sz := hw.size
    have l1 := Nat.lt_of_lt_of_le HX1.out.lt sz
    have l2 := Nat.lt_of_lt_of_le HX2.out.lt sz
    clear hw
    have x16 : wr.cell? ⟨w.heap.size, 6, none⟩ = some (.slice A1 us.length c1) := (HW.out.cell HX1.out.lt).trans (HX1.out.cell' rfl)
    have x26 : wr.cell? ⟨w.heap.size + 1, 6, none⟩ = some (.slice A2 us.length c2) := (HW.out.cell HX2.out.lt).trans (HX2.out.cell' rfl)
    by_cases hlt : j < us.length
    · have e1 : decide ((j : Int) < (us.length : Int)) = true := by simp; omega
      obtain ⟨q1, o1, rfl, lq1, g1⟩ := Lain.str (H1.out.now HW.out) hlt
      obtain ⟨q2, o2, rfl, lq2, g2⟩ := Lain.str (H2.out.now HW.out) hlt
      generalize us[j] = u at *
      go_wp2_with fail
      go_quiet (fail)
      go_wp2_with fail
      go_roundw
      case rel => exact ⟨j + 1, by omega, by go_num, Law.below_drewN HW.out nq⟩
      case measure => simp [RowKit.intOf]; omega
    · have e1 : decide ((j : Int) < (us.length : Int)) = false := by simp; omega
      go_wp2_with fail
      go_ret
      exact ⟨rfl, HB.out.trans (HW.out.mono HB.out.size)⟩
theorem Ops.at {w : World} {D : Option Addr} {qs : List OpW} (h : Ops w D qs) {i : Nat} (hi : i < qs.length) : ∃ b off, D = some ⟨b, off, none⟩ ∧ b < w.heap.size ∧ w.cell? ⟨b, off + i * 7, none⟩ = some (.int .i64 qs[i].kind) ∧ w.cell? ⟨b, off + i * 7 + 1, none⟩ = some (.string qs[i].user) ∧ w.cell? ⟨b, off + i * 7 + 2, none⟩ = some (.int .i64 qs[i].id) ∧ w.cell? ⟨b, off + i * 7 + 3, none⟩ = some (.int .i64 qs[i].st) ∧ w.cell? ⟨b, off + i * 7 + 4, none⟩ = some (.int .i64 qs[i].pr) ∧ w.cell? ⟨b, off + i * 7 + 5, none⟩ = some (.int .u64 qs[i].ttl) ∧ w.cell? ⟨b, off + i * 7 + 6, none⟩ = some (.slice qs[i].A qs[i].us.length qs[i].c) := by
  obtain ⟨b, off, hA, _, h2, hc⟩ := Seq.row (cells := cellsW) (fun _ => rfl) (by decide : 0 < 7) h.row.seq hi
  exact ⟨b, off, hA, h2, by simpa using hc 0 _ rfl, hc 1 _ rfl, hc 2 _ rfl, hc 3 _ rfl, hc 4 _ rfl, hc 5 _ rfl, hc 6 _ rfl⟩
theorem same_len {ls1 ls2 : List Cl} (h : plainC ls1 = plainC ls2) : ls1.length = ls2.length := by
  have := congrArg List.length h
  simpa [plainC] using this
theorem same_at {ls1 ls2 : List Cl} (h : plainC ls1 = plainC ls2) {i : Nat} (h1 : i < ls1.length) (h2 : i < ls2.length) : ls1[i].2.2.map plain = ls2[i].2.2.map plain := by
  have e : (plainC ls1)[i]? = (plainC ls2)[i]? := by rw [h]
  simpa [plainC, List.getElem?_eq_getElem h1, List.getElem?_eq_getElem h2] using e
theorem plain_at {q1 q2 : List OpW} (h : q1.map plain = q2.map plain) {i : Nat} (h1 : i < q1.length) (h2 : i < q2.length) : plain q1[i] = plain q2[i] := by
  have e : (q1.map plain)[i]? = (q2.map plain)[i]? := by rw [h]
  simpa [List.getElem?_eq_getElem h1, List.getElem?_eq_getElem h2] using e
/-- a script handed in, as its parts -/
structure Hand (w : World) (C : Option Addr) (ls : List Cl) (K : Option Addr) (ps : List Pk) : Prop where
  cls : Cls w C ls
  pks : Lain 34 w K (flatPk ps)
theorem Hand.now {w w' : World} {C K : Option Addr} {ls : List Cl} {ps : List Pk} (h : Hand w C ls K ps) (hb : Below w.heap.size w w') : Hand w' C ls K ps := ⟨h.cls.keeps (Keeps.of_below hb) (Keeps.of_below hb) (Keeps.of_below hb), h.pks.now hb⟩
set_option maxRecDepth 100000 in
set_option maxHeartbeats 8000000 in
theorem refSame (st se qu wa re ep sta : Int) (ls1 ls2 : List Cl) (ps : List Pk) (C1 C2 K1 K2 : Option Addr) (c1 c2 k1 k2 : Nat) (w : World) (h1 : Hand w C1 ls1 K1 ps) (h2 : Hand w C2 ls2 K2 ps) (hp : plainC ls1 = plainC ls2) (hl : ls1.length ≤ 1000) (hz : ∀ r ∈ ls1, r.2.2.length ≤ 1000 ∧ ∀ q ∈ r.2.2, q.us.length ≤ 1000) (hk : ps.length ≤ 1000000) :
    Calls Tryd.prog 10 #[.agg #[.int .i64 st, .int .i64 se, .int .i64 qu, .int .i64 wa, .int .i64 re, .int .u64 ep, .int .u64 sta, .slice C1 ls1.length c1, .slice K1 ps.length k1], .agg #[.int .i64 st, .int .i64 se, .int .i64 qu, .int .i64 wa, .int .i64 re, .int .u64 ep, .int .u64 sta, .slice C2 ls2.length c2, .slice K2 ps.length k2]] w fun e w' => e = .returned (.bool true) ∧ Below w.heap.size w w' := by
  have hll := same_len hp
  have HP := Lib.hid hp
  have HL := Lib.hid hll
  have HZ := Lib.hid hz
  rw [← hll]
  clear hp hll hz
  have b1 := (Below.refl w.heap.size w).alloc (Nat.le_refl _) (.cells #[.int .i64 st, .int .i64 se, .int .i64 qu, .int .i64 wa, .int .i64 re, .int .u64 ep, .int .u64 sta, .slice C1 ls1.length c1, .slice K1 ps.length k1] 31)
  have b2 := b1.alloc (by simp) (.cells #[.int .i64 st, .int .i64 se, .int .i64 qu, .int .i64 wa, .int .i64 re, .int .u64 ep, .int .u64 sta, .slice C2 ls1.length c2, .slice K2 ps.length k2] 31)
  have HB := Lib.hid b2
  have HX1 := Lib.hid (show Is ((w.alloc (.cells #[.int .i64 st, .int .i64 se, .int .i64 qu, .int .i64 wa, .int .i64 re, .int .u64 ep, .int .u64 sta, .slice C1 ls1.length c1, .slice K1 ps.length k1] 31)).alloc (.cells #[.int .i64 st, .int .i64 se, .int .i64 qu, .int .i64 wa, .int .i64 re, .int .u64 ep, .int .u64 sta, .slice C2 ls1.length c2, .slice K2 ps.length k2] 31)) w.heap.size 31 #[.int .i64 st, .int .i64 se, .int .i64 qu, .int .i64 wa, .int .i64 re, .int .u64 ep, .int .u64 sta, .slice C1 ls1.length c1, .slice K1 ps.length k1] from (Is.new w _ _ rfl).alloc _)
  have HX2 := Lib.hid (show Is ((w.alloc (.cells #[.int .i64 st, .int .i64 se, .int .i64 qu, .int .i64 wa, .int .i64 re, .int .u64 ep, .int .u64 sta, .slice C1 ls1.length c1, .slice K1 ps.length k1] 31)).alloc (.cells #[.int .i64 st, .int .i64 se, .int .i64 qu, .int .i64 wa, .int .i64 re, .int .u64 ep, .int .u64 sta, .slice C2 ls1.length c2, .slice K2 ps.length k2] 31)) (w.heap.size + 1) 31 #[.int .i64 st, .int .i64 se, .int .i64 qu, .int .i64 wa, .int .i64 re, .int .u64 ep, .int .u64 sta, .slice C2 ls1.length c2, .slice K2 ps.length k2] from Is.new _ _ _ (by simp))
  have H1 := Lib.hid (h1.now b2)
  have H2 := Lib.hid (h2.now b2)
  clear h1 h2 b1 b2
  go_enter Tryd.func10, Tryd.ntmps10
  go_wp2_with fail
  generalize ((w.alloc (.cells #[.int .i64 st, .int .i64 se, .int .i64 qu, .int .i64 wa, .int .i64 re, .int .u64 ep, .int .u64 sta, .slice C1 ls1.length c1, .slice K1 ps.length k1] 31)).alloc (.cells #[.int .i64 st, .int .i64 se, .int .i64 qu, .int .i64 wa, .int .i64 re, .int .u64 ep, .int .u64 sta, .slice C2 ls1.length c2, .slice K2 ps.length k2] 31)) = w1 at *
  have x10 := HX1.out.cell' (i := 0) rfl
  have x20 := HX2.out.cell' (i := 0) rfl
  have x11 := HX1.out.cell' (i := 1) rfl
  have x21 := HX2.out.cell' (i := 1) rfl
  have x12 := HX1.out.cell' (i := 2) rfl
  have x22 := HX2.out.cell' (i := 2) rfl
  have x13 := HX1.out.cell' (i := 3) rfl
  have x23 := HX2.out.cell' (i := 3) rfl
  have x14 := HX1.out.cell' (i := 4) rfl
  have x24 := HX2.out.cell' (i := 4) rfl
  have x15 := HX1.out.cell' (i := 5) rfl
  have x25 := HX2.out.cell' (i := 5) rfl
  have x16 := HX1.out.cell' (i := 6) rfl
  have x26 := HX2.out.cell' (i := 6) rfl
  have x17 := HX1.out.cell' (i := 7) rfl
  have x27 := HX2.out.cell' (i := 7) rfl
  have x18 := HX1.out.cell' (i := 8) rfl
  have x28 := HX2.out.cell' (i := 8) rfl
  have l1 := HX1.out.lt
  have l2 := HX2.out.lt
  go_wp2_with fail
  clear x10 x11 x12 x13 x14 x15 x16 x17 x18 x20 x21 x22 x23 x24 x25 x26 x27 x28
  go_loopw [5] (fun vi wr => ∃ j : Nat, j ≤ ls1.length ∧ vi = .int .i64 j ∧ Below w1.heap.size w1 wr) (fun vi _ => ls1.length - (RowKit.intOf vi).toNat)
  case atStart => exact ⟨0, Nat.zero_le _, rfl, Below.refl _ _⟩
  case round =>
    obtain ⟨j, hj, rfl, hw⟩ := hrel
    have HW := Lib.hid hw
    clear hw l1 l2
    have l1 := Nat.lt_of_lt_of_le HX1.out.lt HW.out.size
    have l2 := Nat.lt_of_lt_of_le HX2.out.lt HW.out.size
    have x17 : wr.cell? ⟨w.heap.size, 7, none⟩ = some (.slice C1 ls1.length c1) := (HW.out.cell HX1.out.lt).trans (HX1.out.cell' rfl)
    have x18 : wr.cell? ⟨w.heap.size, 8, none⟩ = some (.slice K1 ps.length k1) := (HW.out.cell HX1.out.lt).trans (HX1.out.cell' rfl)
    have x27 : wr.cell? ⟨w.heap.size + 1, 7, none⟩ = some (.slice C2 ls1.length c2) := (HW.out.cell HX2.out.lt).trans (HX2.out.cell' rfl)
    have x28 : wr.cell? ⟨w.heap.size + 1, 8, none⟩ = some (.slice K2 ps.length k2) := (HW.out.cell HX2.out.lt).trans (HX2.out.cell' rfl)
    have G1 := Lib.hid (H1.out.now HW.out)
    have G2 := Lib.hid (H2.out.now HW.out)
    by_cases hlt : j < ls1.length
    · have e1 : decide ((j : Int) < (ls1.length : Int)) = true := by simp; omega
      have hlt2 : j < ls2.length := HL.out ▸ hlt
      obtain ⟨q1, o1, rfl, lq1, g1⟩ := G1.out.cls.at hlt
      obtain ⟨q2, o2, rfl, lq2, g2⟩ := G2.out.cls.at hlt2
      have hpl := same_at HP.out hlt hlt2
      have hzz := HZ.out _ (List.getElem_mem hlt)
      have E1 := Lib.hid (G1.out.cls.each _ (List.getElem_mem hlt))
      have E2 := Lib.hid (G2.out.cls.each _ (List.getElem_mem hlt2))
      generalize ls1[j] = r1 at *
      generalize ls2[j] = r2 at *
      obtain ⟨A1, d1, qs1⟩ := r1
      obtain ⟨A2, d2, qs2⟩ := r2
      simp only at g1 g2 hpl hzz E1 E2
      have hql : qs1.length = qs2.length := by have := congrArg List.length hpl; simpa using this
      rw [← hql] at g2
      have HQL := Lib.hid hql
      have HPL := Lib.hid hpl
      obtain ⟨hz1, hz2⟩ := hzz
      have HZ2 := Lib.hid hz2
      clear hql hpl hz2
      go_wp2_with fail
      go_quiet (fail)
      go_wp2_with fail
      have HG1 := Lib.hid g1
      have HG2 := Lib.hid g2
      have HXr1 := Lib.hid (HX1.out.below HW.out HX1.out.lt)
      have HXr2 := Lib.hid (HX2.out.below HW.out HX2.out.lt)
      clear x17 x18 x27 x28 l1 l2 g1 g2
      go_loopw [6] (fun vi wx => ∃ k : Nat, k ≤ qs1.length ∧ vi = .int .i64 k ∧ Below wr.heap.size wr wx) (fun vi _ => qs1.length - (RowKit.intOf vi).toNat)
      case atStart => exact ⟨0, Nat.zero_le _, rfl, Law.below_drewN (Below.refl _ _) nq⟩
      case round =>
        obtain ⟨k, hk, rfl, hw2⟩ := hrel
        have HW2 := Lib.hid hw2
        have sz2 := hw2.size
        clear hw2
        have x17 : wr.cell? ⟨w.heap.size, 7, none⟩ = some (.slice (some ⟨q1, o1, none⟩) ls1.length c1) := (HW2.out.cell HXr1.out.lt).trans (HXr1.out.cell' rfl)
        have x27 : wr.cell? ⟨w.heap.size + 1, 7, none⟩ = some (.slice (some ⟨q2, o2, none⟩) ls1.length c2) := (HW2.out.cell HXr2.out.lt).trans (HXr2.out.cell' rfl)
        have l1 := Nat.lt_of_lt_of_le HXr1.out.lt sz2
        have l2 := Nat.lt_of_lt_of_le HXr2.out.lt sz2
        have g1 : wr.cell? ⟨q1, o1 + j, none⟩ = some (.slice A1 qs1.length d1) := (HW2.out.cell lq1).trans HG1.out
        have g2 : wr.cell? ⟨q2, o2 + j, none⟩ = some (.slice A2 qs1.length d2) := (HW2.out.cell lq2).trans HG2.out
        have lq1' := Nat.lt_of_lt_of_le lq1 sz2
        have lq2' := Nat.lt_of_lt_of_le lq2 sz2
        by_cases hlk : k < qs1.length
        · have e2 : decide ((k : Int) < (qs1.length : Int)) = true := by simp; omega
          have hlk2 : k < qs2.length := HQL.out ▸ hlk
          have F1 := Lib.hid (E1.out.now HW2.out)
          have F2 := Lib.hid (E2.out.now HW2.out)
          obtain ⟨t1, s1, rfl, lt1, a0, a1, a2, a3, a4, a5, a6⟩ := Ops.at F1.out hlk
          obtain ⟨t2, s2, rfl, lt2, b0, b1, b2, b3, b4, b5, b6⟩ := Ops.at F2.out hlk2
          have hpq := plain_at HPL.out hlk hlk2
          have U1 := Lib.hid (F1.out.us _ (List.getElem_mem hlk))
          have U2 := Lib.hid (F2.out.us _ (List.getElem_mem hlk2))
          have hu9 := HZ2.out _ (List.getElem_mem hlk)
          generalize qs1[k] = y1 at *
          generalize qs2[k] = y2 at *
          obtain ⟨kd, user, id, st', pr, ttl, Au, cu, us⟩ := y1
          obtain ⟨kd2, user2, id2, st2, pr2, ttl2, Au2, cu2, us2⟩ := y2
          obtain ⟨rfl, rfl, rfl, rfl, rfl, rfl, rfl⟩ : kd = kd2 ∧ user = user2 ∧ id = id2 ∧ st' = st2 ∧ pr = pr2 ∧ ttl = ttl2 ∧ us = us2 := by simpa [plain] using hpq
          simp only at a0 a1 a2 a3 a4 a5 a6 b0 b1 b2 b3 b4 b5 b6 hu9
          have U1' : Hid (Lain 9 wr Au (us.map .string)) := U1
          have U2' : Hid (Lain 9 wr Au2 (us.map .string)) := U2
          clear U1 U2 F1 F2 hpq
          go_wp2_with fail
          go_still_tail 16, (by kernel_rfl)
          change wpList _ _ _ _ _ wr.drew
          have HWd : Hid (Below _ _ wr.drew) := Lib.hid (Law.below_drewN HW2.out 1)
          have hso := sameOps kd id st' pr ttl user us Au Au2 cu cu2 wr.drew (U1'.out.now (Law.below_drewN (Below.refl _ wr) 1)) (U2'.out.now (Law.below_drewN (Below.refl _ wr) 1)) hu9
          have HSO := Lib.hid hso
          clear hso
          clear x17 x27 g1 g2 a0 a1 a2 a3 a4 a5 a6 b0 b1 b2 b3 b4 b5 b6 U1' U2' HW2
          generalize wr.drew = wd at *
          go_wp2_with fail
          refine HSO.out.mono ?_
          rintro e w9 ⟨rfl, b9⟩
          have HW9 := Lib.hid (HWd.out.trans (b9.mono HWd.out.size))
          clear b9 HWd HSO
          go_wp2_with fail
          go_roundw
          case rel => exact ⟨k + 1, by omega, by go_num, HW9.out⟩
          case measure => simp [RowKit.intOf]; omega
        · have e2 : decide ((k : Int) < (qs1.length : Int)) = false := by simp; omega
          go_wp2_with fail
          go_roundw
          case rel => exact ⟨j + 1, by omega, by go_num, HW.out.trans (HW2.out.mono HW.out.size)⟩
          case measure => simp [RowKit.intOf]; omega
    · have e1 : decide ((j : Int) < (ls1.length : Int)) = false := by simp; omega
      go_wp2_with fail
      clear x17 x18 x27 x28 l1 l2 G1 G2
      go_loopw [7] (fun vi wx => ∃ k : Nat, k ≤ ps.length ∧ vi = .int .i64 k ∧ Below w1.heap.size w1 wx) (fun vi _ => ps.length - (RowKit.intOf vi).toNat)
      case atStart => exact ⟨0, Nat.zero_le _, rfl, HW.out⟩
      case round =>
        clear HW
        obtain ⟨k, hk, rfl, hw2⟩ := hrel
        have HW2 := Lib.hid hw2
        clear hw2
        have l1 := Nat.lt_of_lt_of_le HX1.out.lt HW2.out.size
        have l2 := Nat.lt_of_lt_of_le HX2.out.lt HW2.out.size
        have x17 : wr.cell? ⟨w.heap.size, 7, none⟩ = some (.slice C1 ls1.length c1) := (HW2.out.cell HX1.out.lt).trans (HX1.out.cell' rfl)
        have x18 : wr.cell? ⟨w.heap.size, 8, none⟩ = some (.slice K1 ps.length k1) := (HW2.out.cell HX1.out.lt).trans (HX1.out.cell' rfl)
        have x27 : wr.cell? ⟨w.heap.size + 1, 7, none⟩ = some (.slice C2 ls1.length c2) := (HW2.out.cell HX2.out.lt).trans (HX2.out.cell' rfl)
        have x28 : wr.cell? ⟨w.heap.size + 1, 8, none⟩ = some (.slice K2 ps.length k2) := (HW2.out.cell HX2.out.lt).trans (HX2.out.cell' rfl)
        by_cases hlk : k < ps.length
        · have e2 : decide ((k : Int) < (ps.length : Int)) = true := by simp; omega
          obtain ⟨t1, s1, rfl, lt1, a0, a1, a2⟩ := Opx.Lain.pk (H1.out.now HW2.out).pks hlk
          obtain ⟨t2, s2, rfl, lt2, b0, b1, b2⟩ := Opx.Lain.pk (H2.out.now HW2.out).pks hlk
          generalize ps[k] = y at *
          obtain ⟨y0, y1, y2⟩ := y
          simp only at a0 a1 a2 b0 b1 b2
          go_wp2_with fail
          go_quiet (fail)
          go_wp2_with fail
          go_roundw
          case rel => exact ⟨k + 1, by omega, by go_num, Law.below_drewN HW2.out nq⟩
          case measure => simp [RowKit.intOf]; omega
        · have e2 : decide ((k : Int) < (ps.length : Int)) = false := by simp; omega
          go_wp2_with fail
          go_ret
          exact ⟨rfl, HB.out.trans (HW2.out.mono HB.out.size)⟩
end Opx
end Go.Proofs.YtlkbfnpncomifaaDoor
