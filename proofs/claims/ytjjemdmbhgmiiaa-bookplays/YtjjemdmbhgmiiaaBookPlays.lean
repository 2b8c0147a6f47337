/-
  BookPlays: whatever the acts, the number and the user, the statement's function returns true, and the arguments read as before. No condition.
-/
import Derived.Test.YtjjemdmbhgmiiaaBook17
import Derived.Test.YtjjemdmbhgmiiaaBook14
import Derived.Test.YtjjemdmbhgmiiaaBook13
import Derived.Test.YtjjemdmbhgmiiaaBook10
import Derived.Test.YtjjemdmbhgmiiaaBook08
import Derived.Lib.QuietBelow
import Derived.BigQuiet
namespace Go.Proofs.Ytjjemdmbhgmiiaa.bookPlays
open Go.ChangeShapes Go.WideShapes Go.ChangeAt Go.RowKit
open Go.Law Go.Proofs.Ytjjemdmbhgmiiaa.Bk Go.Proofs.Ytjjemdmbhgmiiaa.OmapB Door Go.Sort

set_option maxRecDepth 100000 in
set_option maxHeartbeats 8000000 in
theorem walk (l : List ActV) (A : Option Addr) (c : Nat) (most : Int) (user : ByteArray) (hus : user.size ≤ maxLen) (w : World) (hs : Seq w 0 w.heap.size A (flatA l)) (hl : l.length ≤ maxLen) (hq : ∀ q ∈ l, q.Good) :
    Calls Try.prog 3 #[.slice A l.length c, .int .i64 most, .string user] w fun e w' => e = .returned (.bool true) ∧ Below w.heap.size w w' := by
  have HS := Lib.hid hs
  have HSW := Lib.hid hs
  have HQ := Lib.hid hq
  have HL := Lib.hid hl
  have HB := Lib.hid (Below.refl w.heap.size w)
  unfold maxLen at hus
  clear hs hq hl
  go_enter Try.func3, Try.ntmps3
  go_wp2_with fail
  refine (awake _).mono ?_
  rintro e w1 ⟨rfl, b1⟩
  replace HS := Lib.hid ((HS.out.below b1).more b1.size)
  replace HB := Lib.hid (HB.out.trans (b1.mono HB.out.size))
  clear b1
  go_wp2_with fail
  refine (long_ l A c _ HS.out HL.out HQ.out).mono ?_
  rintro e w' ⟨rfl, rfl⟩
  cases hlong : longB l with
  | true =>
    go_wp2_with fail
    refine (awake _).mono ?_
    rintro e w2 ⟨rfl, b1⟩
    replace HB := Lib.hid (HB.out.trans (b1.mono HB.out.size))
    clear b1
    go_wp2_with fail
    go_ret
    exact ⟨rfl, HB.out⟩
  | false =>
    by_cases hu : 100 < user.size
    · have d1 : decide ((100 : Int) < (user.size : Int)) = true := by simp; omega
      go_wp2_with fail
      refine (awake _).mono ?_
      rintro e w2 ⟨rfl, b1⟩
      replace HB := Lib.hid (HB.out.trans (b1.mono HB.out.size))
      clear b1
      go_wp2_with fail
      go_ret
      exact ⟨rfl, HB.out⟩
    have d1 : decide ((100 : Int) < (user.size : Int)) = false := by simp; omega
    have hl2 := long_le hlong
    clear hlong HS
    go_wp2_with fail
    have hgw : w.heap.size ≤ w1.heap.size := HB.out.size
    have HI1 := Lib.hid (Is.new w1 27 #[.pointer none] rfl)
    have bx := (Below.refl w1.heap.size w1).alloc (Nat.le_refl _) (.cells #[.pointer none] 27)
    replace HB := Lib.hid (HB.out.trans (bx.mono HB.out.size))
    generalize w1.alloc (.cells #[.pointer none] 27) = w2 at *
    clear bx
    go_loopw [8, 9, 10] (fun wv nowv iv wr => ∃ (j : Nat) (p AW : Option Addr) (cW : Nat), j ≤ l.length ∧ iv = .int .i64 j ∧ nowv = .int .u64 (madeB most (l.take j)).2 ∧ wv = .slice AW (madeB most (l.take j)).1.length cW ∧ Is wr w1.heap.size 27 #[.pointer p] ∧ Booked wr p (madeB most (l.take j)).1 ∧ UsersAt wr AW (madeB most (l.take j)).1 ∧ Below w.heap.size w wr) (fun _ _ iv _ => l.length - (intOf iv).toNat)
    case atStart => exact ⟨0, none, none, 0, Nat.zero_le _, rfl, rfl, rfl, HI1.out, Booked.nil _, ⟨[], Lain.nil, (fun _ h => by cases h), rfl⟩, HB.out⟩
    case round =>
      obtain ⟨j, p, AW, cW, hj, rfl, rfl, rfl, i1, hk, hu8, hB⟩ := hrel
      have hmf := made_fit most (l.take j) (fun q hq => HQ.out q (List.mem_of_mem_take hq))
      have hjl : (l.take j).length ≤ 120 := by simp; omega
      have HF := Lib.hid (hmf.1.more hjl)
      have HUn := Lib.hid hmf.2
      have HI1W := Lib.hid i1
      have HKW := Lib.hid hk
      have HWW := Lib.hid hu8
      have HBW := Lib.hid hB
      have s0 := hB.size
      clear i1 hk hB hmf hjl HI1 HB hu8
      by_cases hlt : j < l.length
      · obtain ⟨b, off, rfl, hb, cs⟩ := HSW.out.act hlt
        have HT : Hid (madeB most (l.take (j + 1)) = actB most (madeB most (l.take j)) l[j]) := by show _ = _; rw [List.take_succ_eq_append_getElem hlt, madeB_snoc]
        have hgd := HQ.out _ (List.getElem_mem hlt)
        have lb : b < wr.heap.size := by omega
        generalize madeB most (l.take j) = st at *
        obtain ⟨sb, sn⟩ := st
        generalize l[j] = q at *
        obtain ⟨qs, ⟨kind, user', id, st', pr, ttl, users'⟩, qb⟩ := q
        have hub := Lib.hid (ofwf hgd.by_)
        have hut := Lib.hid (ofwf hgd.op.ttl)
        simp only at hub hut HF HUn HKW HWW
        have HCS : Hid (∀ k u, (cellsA ⟨qs, ⟨kind, user', id, st', pr, ttl, users'⟩, qb⟩)[k]? = some u → w.cell? ⟨b, off + j * 9 + k, none⟩ = some u) := cs
        have a8 : wr.cell? ⟨b, off + j * 9 + 8, none⟩ = some (.int .u64 qb) := (HBW.out.cell (p := ⟨b, off + j * 9 + 8, none⟩) hb).trans (cs 8 _ rfl)
        have hsl := HF.out.len
        clear cs hgd
        go_wp2_with fail
        refine (later sn qb HUn.out hub.out _).mono ?_
        rintro e w' ⟨rfl, rfl⟩
        have HU2 := Lib.hid (sat_U HUn.out hub.out)
        generalize hnow : sat sn qb = now at *
        clear a8
        go_upto_region 14 with (fail)
        have m1 := HI1W.out.lt
        have HIC := Lib.hid (Is.new wr 27 #[.pointer none] rfl)
        have bx := (Below.refl wr.heap.size wr).alloc (Nat.le_refl _) (.cells #[.pointer none] 27)
        replace HI1W := Lib.hid (HI1W.out.below bx HI1W.out.lt)
        replace HBW := Lib.hid (HBW.out.trans (bx.mono HBW.out.size))
        replace HKW := Lib.hid (HKW.out.now bx)
        replace HWW := Lib.hid (HWW.out.now bx)
        generalize wr.alloc (.cells #[.pointer none] 27) = w3 at *
        clear bx
        have l1 := HI1W.out.lt
        have n1 := HI1W.out.cell' (i := 0) rfl
        have lC := HIC.out.lt
        have nC := HIC.out.cell' (i := 0) rfl
        have gC := HIC.out.frozen 0
        have s3 := HBW.out.size
        have lb3 : b < w3.heap.size := by omega
        have a0 : w3.cell? ⟨b, off + j * 9, none⟩ = some (.bool qs) := (HBW.out.cell (p := ⟨b, off + j * 9, none⟩) hb).trans (HCS.out 0 _ rfl)
        have a1 : w3.cell? ⟨b, off + j * 9 + 1, none⟩ = some (.int .i64 kind) := (HBW.out.cell (p := ⟨b, off + j * 9 + 1, none⟩) hb).trans (HCS.out 1 _ rfl)
        have a2 : w3.cell? ⟨b, off + j * 9 + 2, none⟩ = some (.string user') := (HBW.out.cell (p := ⟨b, off + j * 9 + 2, none⟩) hb).trans (HCS.out 2 _ rfl)
        have a3 : w3.cell? ⟨b, off + j * 9 + 3, none⟩ = some (.int .i64 id) := (HBW.out.cell (p := ⟨b, off + j * 9 + 3, none⟩) hb).trans (HCS.out 3 _ rfl)
        have a4 : w3.cell? ⟨b, off + j * 9 + 4, none⟩ = some (.int .i64 st') := (HBW.out.cell (p := ⟨b, off + j * 9 + 4, none⟩) hb).trans (HCS.out 4 _ rfl)
        have a5 : w3.cell? ⟨b, off + j * 9 + 5, none⟩ = some (.int .i64 pr) := (HBW.out.cell (p := ⟨b, off + j * 9 + 5, none⟩) hb).trans (HCS.out 5 _ rfl)
        have a6 : w3.cell? ⟨b, off + j * 9 + 6, none⟩ = some (.int .u64 ttl) := (HBW.out.cell (p := ⟨b, off + j * 9 + 6, none⟩) hb).trans (HCS.out 6 _ rfl)
        have a7 : w3.cell? ⟨b, off + j * 9 + 7, none⟩ = some (users') := (HBW.out.cell (p := ⟨b, off + j * 9 + 7, none⟩) hb).trans (HCS.out 7 _ rfl)
        go_upto_if 52 with (fail)
        go_cut [12, 13, 14] (fun v12 v13 v14 wx => ∃ (p' A1 A2 A3 : Option Addr) (c1 c2 c3 : Nat) (cs : List Ch) (nb : List (ByteArray × En)), v12 = .slice A1 cs.length c1 ∧ v13 = .slice A2 nb.length c2 ∧ v14 = .slice A3 cs.length c3 ∧ cs.length ≤ 120 ∧ Fit 121 nb ∧ madeB most (l.take (j + 1)) = (nb, now) ∧ Lain 67 wx A1 (flatC cs) ∧ UsersAt wx A2 nb ∧ Lain 93 wx A3 (flatC cs) ∧ Is wx w1.heap.size 27 #[.pointer p] ∧ Is wx wr.heap.size 27 #[.pointer p'] ∧ Booked wx p sb ∧ UsersAt wx AW sb ∧ Booked wx p' nb ∧ Below w.heap.size w wx)
        case first =>
          cases qs with
          | true =>
            have HTE : Hid (madeB most (l.take (j + 1)) = (sweepB now sb, now)) := by show _ = _; rw [HT.out]; unfold actB; simp [hnow]
            clear HT a1 a2 a3 a4 a5 a6 a7 hnow
            have hcl : (sweepC now sb).length ≤ 120 := Nat.le_trans (List.length_filterMap_le _ _) hsl
            have HFS := Lib.hid ((HF.out.sweep (now := now)).more (by omega : 120 ≤ 121))
            go_wp2_with fail
            refine (sweep now HKW.out HF.out.book.1 (by omega) (fun q hq => by have := HF.out.ses q hq; omega)).mono ?_
            rintro e w5 ⟨p5, A5, c5, rfl, k5, q5, b1⟩
            replace HI1W := Lib.hid (HI1W.out.below b1 HI1W.out.lt)
            replace HIC := Lib.hid (HIC.out.below b1 HIC.out.lt)
            replace HBW := Lib.hid (HBW.out.trans (b1.mono HBW.out.size))
            replace HKW := Lib.hid (HKW.out.now b1)
            replace HWW := Lib.hid (HWW.out.now b1)
            have HJK := Lib.hid (HKW.out.store (i := 0) HIC.out (by decide) (by decide) (.pointer p5))
            have HJW := Lib.hid (HWW.out.keeps (Keeps.store (i := 0) HIC.out (by decide) (.pointer p5)) (Keeps.store (i := 0) HIC.out (by decide) (.pointer p5)))
            have HJN := Lib.hid (k5.store (i := 0) HIC.out (by decide) (by decide) (.pointer p5))
            have HJQ := Lib.hid (q5.keeps (Keeps.store (i := 0) HIC.out (by decide) (.pointer p5)))
            have HJC := Lib.hid (HIC.out.set 0 (.pointer p5) rfl)
            have HJ1 := Lib.hid (HI1W.out.far (p := ⟨wr.heap.size, 0, none⟩) (by simp only []; omega) (.pointer p5))
            have HJB := Lib.hid (HBW.out.setCell (p := ⟨wr.heap.size, 0, none⟩) s0 (.pointer p5))
            have z1 := HIC.out.cell' (i := 0) rfl
            have z2 := HIC.out.frozen 0
            have z3 := HIC.out.lt
            clear k5 q5 b1 n1 a0 HI1W HBW HKW HWW nC gC lC l1 HIC lb3
            go_wp2_with fail
            generalize w5.setCell ⟨wr.heap.size, 0, none⟩ (.pointer p5) = w6 at *
            refine (refSweep now HJW.out HF.out.book.1 (by omega) (fun q hq => by have := HF.out.ses q hq; omega)).mono ?_
            rintro e w7 ⟨A7, c7, A8, c8, rfl, u7, q7, b1⟩
            replace HJ1 := Lib.hid (HJ1.out.below b1 HJ1.out.lt)
            replace HJC := Lib.hid (HJC.out.below b1 HJC.out.lt)
            replace HJB := Lib.hid (HJB.out.trans (b1.mono HJB.out.size))
            replace HJK := Lib.hid (HJK.out.now b1)
            replace HJW := Lib.hid (HJW.out.now b1)
            replace HJN := Lib.hid (HJN.out.now b1)
            replace HJQ := Lib.hid (HJQ.out.now b1)
            have HU7 := Lib.hid u7
            have HQ7 := Lib.hid q7
            clear b1 u7 q7 z1 z2 z3
            go_wp2_with fail
            go_meet
            exact ⟨p5, A5, A7, A8, c5, c7, c8, _, _, rfl, rfl, rfl, hcl, HFS.out, HTE.out, HJQ.out, HU7.out, HQ7.out, HJ1.out, HJC.out, HJK.out, HJW.out, HJN.out, HJB.out⟩
          | false =>
            have HTE : Hid (madeB most (l.take (j + 1)) = (wrB ⟨kind, user', id, st', pr, ttl, users'⟩ now most sb, now)) := by show _ = _; rw [HT.out]; unfold actB; simp [hnow]
            have HWR : Hid (∀ W, Kept w3 W → Calls Try.prog 14 #[.agg #[.pointer p], .agg #[.int .i64 kind, .string user', .int .i64 id, .int .i64 st', .int .i64 pr, .int .u64 ttl, users'], .int .u64 now, .int .i64 most] W (Wrote W (wrB ⟨kind, user', id, st', pr, ttl, users'⟩ now most sb) (wrC ⟨kind, user', id, st', pr, ttl, users'⟩ now most sb) (wrE ⟨kind, user', id, st', pr, ttl, users'⟩ now most sb))) := fun W K =>
              write ⟨kind, user', id, st', pr, ttl, users'⟩ now most HU2.out hut.out (HKW.out.now K) HF.out.book (by have := HF.out.of user'; simp only; omega) (by omega)
            have HRW : Hid (∀ W, Kept w3 W → Calls Try.prog 15 #[.slice AW sb.length cW, .agg #[.int .i64 kind, .string user', .int .i64 id, .int .i64 st', .int .i64 pr, .int .u64 ttl, users'], .int .u64 now, .int .i64 most] W (RWrote W (wrB ⟨kind, user', id, st', pr, ttl, users'⟩ now most sb) (wrC ⟨kind, user', id, st', pr, ttl, users'⟩ now most sb) (wrE ⟨kind, user', id, st', pr, ttl, users'⟩ now most sb))) := fun W K =>
              refWrite ⟨kind, user', id, st', pr, ttl, users'⟩ now most HU2.out hut.out (HWW.out.now K) HF.out.book (by have := HF.out.of user'; simp only; omega) (by omega)
            have HFS := Lib.hid (HF.out.write (q := ⟨kind, user', id, st', pr, ttl, users'⟩) (now := now) (most := most))
            have hcl : (wrC ⟨kind, user', id, st', pr, ttl, users'⟩ now most sb).length ≤ 120 := Nat.le_trans (tells_le _ _ _ _) (by omega)
            clear HT hnow
            generalize wrB ⟨kind, user', id, st', pr, ttl, users'⟩ now most sb = nb at *
            generalize wrC ⟨kind, user', id, st', pr, ttl, users'⟩ now most sb = nc at *
            generalize wrE ⟨kind, user', id, st', pr, ttl, users'⟩ now most sb = ne at *
            go_upto_region 17 with (fail)
            go_cut [15, 16, 17] (fun v15 v16 v17 wx => ∃ (gn : Nat) (p5 A5 : Option Addr) (c5 : Nat), v15 = .pointer (some ⟨gn, 0, none⟩) ∧ v16 = .slice A5 nc.length c5 ∧ v17 = .int .i64 ne ∧ w3.heap.size ≤ gn ∧ Is wx gn 27 #[.pointer p5] ∧ Booked wx p5 nb ∧ Lain 67 wx A5 (flatC nc) ∧ Below w3.heap.size w3 wx)
            case first =>
              have HKS : Hid (∀ W, Below w3.heap.size w3 W → (fun w' => w'.cell? ⟨b, off + j * 9 + 1, none⟩ = some (.int .i64 kind) ∧ w'.cell? ⟨b, off + j * 9 + 2, none⟩ = some (.string user') ∧ w'.cell? ⟨b, off + j * 9 + 3, none⟩ = some (.int .i64 id) ∧ w'.cell? ⟨b, off + j * 9 + 4, none⟩ = some (.int .i64 st') ∧ w'.cell? ⟨b, off + j * 9 + 5, none⟩ = some (.int .i64 pr) ∧ w'.cell? ⟨b, off + j * 9 + 6, none⟩ = some (.int .u64 ttl) ∧ w'.cell? ⟨b, off + j * 9 + 7, none⟩ = some (users') ∧ w'.cell? ⟨w1.heap.size, 0, none⟩ = some (.pointer p)) W) := fun W K => ⟨(K.cell (p := ⟨b, off + j * 9 + 1, none⟩) lb3).trans a1, (K.cell (p := ⟨b, off + j * 9 + 2, none⟩) lb3).trans a2, (K.cell (p := ⟨b, off + j * 9 + 3, none⟩) lb3).trans a3, (K.cell (p := ⟨b, off + j * 9 + 4, none⟩) lb3).trans a4, (K.cell (p := ⟨b, off + j * 9 + 5, none⟩) lb3).trans a5, (K.cell (p := ⟨b, off + j * 9 + 6, none⟩) lb3).trans a6, (K.cell (p := ⟨b, off + j * 9 + 7, none⟩) lb3).trans a7, (K.cell (p := ⟨w1.heap.size, 0, none⟩) l1).trans n1⟩
              refine wp_region_held_drew (S := fun w' => w'.cell? ⟨b, off + j * 9 + 1, none⟩ = some (.int .i64 kind) ∧ w'.cell? ⟨b, off + j * 9 + 2, none⟩ = some (.string user') ∧ w'.cell? ⟨b, off + j * 9 + 3, none⟩ = some (.int .i64 id) ∧ w'.cell? ⟨b, off + j * 9 + 4, none⟩ = some (.int .i64 st') ∧ w'.cell? ⟨b, off + j * 9 + 5, none⟩ = some (.int .i64 pr) ∧ w'.cell? ⟨b, off + j * 9 + 6, none⟩ = some (.int .u64 ttl) ∧ w'.cell? ⟨b, off + j * 9 + 7, none⟩ = some (users') ∧ w'.cell? ⟨w1.heap.size, 0, none⟩ = some (.pointer p)) (by kernel_rfl) (HKS.out _ (Kept.drew w3)) (fun hS0 => ?_)
              refine wpAnyH_take (i := 0) (oi := { dst := some 66, op := .load 27 (.tmp 7), type := _, pos := _, after := _, guard := _ }) (v := M p) rfl (by kernel_rfl) (by kernel_rfl) (by kernel_rfl) (fun _ _ _ h => h) (Or.inl ⟨by rfl, ?_⟩) hS0 ?_
              · intro w' hSw
                go_simp
              try simp only [Act.put, List.setIfInBounds_toArray, List.set_cons_zero, List.set_cons_succ]
              refine wpAnyH_take (i := 1) (oi := { dst := some 67, op := .move (.tmp 0), type := _, pos := _, after := _, guard := _ }) (v := .slice (some ⟨b, off, none⟩) l.length c) rfl (by kernel_rfl) (by kernel_rfl) (by kernel_rfl) (fun _ _ _ h => h) (Or.inl ⟨by rfl, ?_⟩) hS0 ?_
              · intro w' hSw
                go_simp
              try simp only [Act.put, List.setIfInBounds_toArray, List.set_cons_zero, List.set_cons_succ]
              refine wpAnyH_take (i := 2) (oi := { dst := some 68, op := .move (.tmp 10), type := _, pos := _, after := _, guard := _ }) (v := .int .i64 (j : Int)) rfl (by kernel_rfl) (by kernel_rfl) (by kernel_rfl) (fun _ _ _ h => h) (Or.inl ⟨by rfl, ?_⟩) hS0 ?_
              · intro w' hSw
                go_simp
              try simp only [Act.put, List.setIfInBounds_toArray, List.set_cons_zero, List.set_cons_succ]
              refine wpAnyH_take (i := 3) (oi := { dst := some 69, op := .indexAddr 22 (.tmp 67) (.tmp 68), type := _, pos := _, after := _, guard := _ }) (v := .pointer (some ⟨b, off + j * 9, none⟩)) rfl (by kernel_rfl) (by kernel_rfl) (by kernel_rfl) (fun _ _ _ h => h) (Or.inl ⟨by rfl, ?_⟩) hS0 ?_
              · intro w' hSw
                go_simp
              try simp only [Act.put, List.setIfInBounds_toArray, List.set_cons_zero, List.set_cons_succ]
              refine wpAnyH_take (i := 4) (oi := { dst := some 70, op := .fieldAddr 35 (.tmp 69) 1, type := _, pos := _, after := _, guard := _ }) (v := .pointer (some ⟨b, off + j * 9 + 1, none⟩)) rfl (by kernel_rfl) (by kernel_rfl) (by kernel_rfl) (fun _ _ _ h => h) (Or.inl ⟨by rfl, ?_⟩) hS0 ?_
              · intro w' hSw
                go_simp
              try simp only [Act.put, List.setIfInBounds_toArray, List.set_cons_zero, List.set_cons_succ]
              refine wpAnyH_take (i := 5) (oi := { dst := some 71, op := .load 33 (.tmp 70), type := _, pos := _, after := _, guard := _ }) (v := .agg #[.int .i64 kind, .string user', .int .i64 id, .int .i64 st', .int .i64 pr, .int .u64 ttl, users']) rfl (by kernel_rfl) (by kernel_rfl) (by kernel_rfl) (fun _ _ _ h => h) (Or.inl ⟨by rfl, ?_⟩) hS0 ?_
              · intro w' hSw
                go_simp
              try simp only [Act.put, List.setIfInBounds_toArray, List.set_cons_zero, List.set_cons_succ]
              refine wpAnyH_take (i := 6) (oi := { dst := some 72, op := .move (.tmp 9), type := _, pos := _, after := _, guard := _ }) (v := .int .u64 now) rfl (by kernel_rfl) (by kernel_rfl) (by kernel_rfl) (fun _ _ _ h => h) (Or.inl ⟨by rfl, ?_⟩) hS0 ?_
              · intro w' hSw
                go_simp
              try simp only [Act.put, List.setIfInBounds_toArray, List.set_cons_zero, List.set_cons_succ]
              refine wpAnyH_take (i := 7) (oi := { dst := some 73, op := .move (.tmp 1), type := _, pos := _, after := _, guard := _ }) (v := .int .i64 most) rfl (by kernel_rfl) (by kernel_rfl) (by kernel_rfl) (fun _ _ _ h => h) (Or.inl ⟨by rfl, ?_⟩) hS0 ?_
              · intro w' hSw
                go_simp
              try simp only [Act.put, List.setIfInBounds_toArray, List.set_cons_zero, List.set_cons_succ]
              refine wpAnyH_ready (rs := [8, 13]) (by kernel_rfl) (by simp) ?_
              refine AllReadyH.cons (o := { dst := some 74, op := .call { callee := .value (.func 14), args := #[.tmp 66, .tmp 71, .tmp 72, .tmp 73], argTypes := #[27, 33, 29, 3] }, type := _, pos := _, after := _, guard := _ }) rfl (fun K hK => ?_) ?_
              · go_simp
                refine Calls.mono (HWR.out _ (Kept.drew w3)) ?_
                rintro e w5 ⟨p5, A5, c5, rfl, k5, q5, b1⟩
                have b2 : Below w3.heap.size w3 w5 := Below.trans (Kept.drew w3) (Below.mono b1 (Nat.le_refl _))
                go_wp2_with fail
                refine hK.out _ _ (HKS.out _ b2) (fun hS1 => ?_)
                clear hK K
                try simp only [Act.put, List.setIfInBounds_toArray, List.set_cons_zero, List.set_cons_succ]
                refine wpAnyH_take (i := 9) (oi := { dst := some 65, op := .move (.tmp 74), type := _, pos := _, after := _, guard := _ }) (v := .tuple #[M p5, .slice A5 nc.length c5, .int .i64 ne]) rfl (by kernel_rfl) (by kernel_rfl) (by kernel_rfl) (fun _ _ _ h => h) (Or.inl ⟨by rfl, ?_⟩) hS1 ?_
                · intro w' hSw
                  go_simp
                try simp only [Act.put, List.setIfInBounds_toArray, List.set_cons_zero, List.set_cons_succ]
                refine wpAnyH_take (i := 10) (oi := { dst := some 75, op := .extract (.tmp 65) 0, type := _, pos := _, after := _, guard := _ }) (v := M p5) rfl (by kernel_rfl) (by kernel_rfl) (by kernel_rfl) (fun _ _ _ h => h) (Or.inl ⟨by rfl, ?_⟩) hS1 ?_
                · intro w' hSw
                  go_simp
                try simp only [Act.put, List.setIfInBounds_toArray, List.set_cons_zero, List.set_cons_succ]
                refine wpAnyH_take (i := 11) (oi := { dst := some 76, op := .extract (.tmp 65) 1, type := _, pos := _, after := _, guard := _ }) (v := .slice A5 nc.length c5) rfl (by kernel_rfl) (by kernel_rfl) (by kernel_rfl) (fun _ _ _ h => h) (Or.inl ⟨by rfl, ?_⟩) hS1 ?_
                · intro w' hSw
                  go_simp
                try simp only [Act.put, List.setIfInBounds_toArray, List.set_cons_zero, List.set_cons_succ]
                refine wpAnyH_take (i := 12) (oi := { dst := some 77, op := .extract (.tmp 65) 2, type := _, pos := _, after := _, guard := _ }) (v := .int .i64 ne) rfl (by kernel_rfl) (by kernel_rfl) (by kernel_rfl) (fun _ _ _ h => h) (Or.inl ⟨by rfl, ?_⟩) hS1 ?_
                · intro w' hSw
                  go_simp
                try simp only [Act.put, List.setIfInBounds_toArray, List.set_cons_zero, List.set_cons_succ]
                refine wpAnyH_ready (rs := [13]) (by kernel_rfl) (by simp) ?_
                refine AllReadyH.cons (o := { dst := some 15, op := .alloc 27, type := _, pos := _, after := _, guard := _ }) rfl (fun K hK => ?_) AllReadyH.nil
                go_simp
                have ba := (Below.refl w5.heap.size w5).alloc (Nat.le_refl _) (.cells #[.pointer none] 27)
                have HBn := Lib.hid (b2.trans (ba.mono b2.size))
                have HIn := Lib.hid (Is.new w5 27 #[.pointer none] rfl)
                have HKn := Lib.hid (k5.now ba)
                have HQn := Lib.hid (q5.now ba)
                have nf : w3.heap.size ≤ w5.heap.size := b2.size
                refine hK.out _ _ (HKS.out _ HBn.out) (fun hS2 => ?_)
                clear hK K
                try simp only [Act.put, List.setIfInBounds_toArray, List.set_cons_zero, List.set_cons_succ]
                generalize w5.alloc (.cells #[.pointer none] 27) = w6 at *
                have c80 : w6.cell? ⟨w5.heap.size, 0, none⟩ = some (.pointer none) := HIn.out.cell' rfl
                have f80 := HIn.out.frozen 0
                have l80 := HIn.out.lt
                have HIz := Lib.hid (HIn.out.set 0 (.pointer p5) rfl)
                have HKz := Lib.hid (HKn.out.store (i := 0) HIn.out (by decide) (by decide) (.pointer p5))
                have HQz := Lib.hid (HQn.out.keeps (Keeps.store (i := 0) HIn.out (by decide) (.pointer p5)))
                have HBz := Lib.hid (HBn.out.setCell (p := ⟨w5.heap.size, 0, none⟩) nf (.pointer p5))
                refine wpAnyH_ready (rs := [14]) (by kernel_rfl) (by simp) ?_
                refine AllReadyH.cons (o := { dst := none, op := .store 27 (.tmp 15) (.tmp 75), type := _, pos := _, after := _, guard := _ }) rfl (fun K hK => ?_) AllReadyH.nil
                go_simp
                refine hK.out _ _ (HKS.out _ HBz.out) (fun hS9 => ?_)
                clear hK K
                try simp only [Act.put, List.setIfInBounds_toArray, List.set_cons_zero, List.set_cons_succ]
                refine wpAnyH_take (i := 15) (oi := { dst := some 16, op := .assign (.tmp 76), type := _, pos := _, after := _, guard := _ }) (v := .slice A5 nc.length c5) rfl (by kernel_rfl) (by kernel_rfl) (by kernel_rfl) (fun _ _ _ h => h) (Or.inl ⟨by rfl, ?_⟩) hS9 ?_
                · intro w' hSw
                  go_simp
                try simp only [Act.put, List.setIfInBounds_toArray, List.set_cons_zero, List.set_cons_succ]
                refine wpAnyH_take (i := 16) (oi := { dst := some 17, op := .assign (.tmp 77), type := _, pos := _, after := _, guard := _ }) (v := .int .i64 ne) rfl (by kernel_rfl) (by kernel_rfl) (by kernel_rfl) (fun _ _ _ h => h) (Or.inl ⟨by rfl, ?_⟩) hS9 ?_
                · intro w' hSw
                  go_simp
                try simp only [Act.put, List.setIfInBounds_toArray, List.set_cons_zero, List.set_cons_succ]
                refine wpAnyH_done (by kernel_rfl) ?_ _
                go_wp2_with fail
                go_meet
                exact ⟨w5.heap.size, p5, A5, c5, rfl, rfl, rfl, nf, HIz.out, HKz.out, HQz.out, HBz.out⟩
              · refine AllReadyH.cons (o := { dst := some 15, op := .alloc 27, type := _, pos := _, after := _, guard := _ }) rfl (fun K hK => ?_) AllReadyH.nil
                go_simp
                have ba : Below w3.heap.size w3 (w3.alloc (.cells #[.pointer none] 27)).drew := Below.trans ((Below.refl w3.heap.size w3).alloc (Nat.le_refl _) (.cells #[.pointer none] 27)) ((Kept.drew (w3.alloc (.cells #[.pointer none] 27))).mono (by simp))
                have HI4 : Hid (Is (w3.alloc (.cells #[.pointer none] 27)).drew w3.heap.size 27 #[.pointer none]) := (Is.new w3 27 #[.pointer none] rfl).drewN 1
                refine hK.out _ _ (HKS.out _ ba) (fun hS2 => ?_)
                clear hK K
                try simp only [Act.put, List.setIfInBounds_toArray, List.set_cons_zero, List.set_cons_succ]
                generalize (w3.alloc (.cells #[.pointer none] 27)).drew = w4 at *
                refine wpAnyH_ready (rs := [8]) (by kernel_rfl) (by simp) ?_
                refine AllReadyH.cons (o := { dst := some 74, op := .call { callee := .value (.func 14), args := #[.tmp 66, .tmp 71, .tmp 72, .tmp 73], argTypes := #[27, 33, 29, 3] }, type := _, pos := _, after := _, guard := _ }) rfl (fun K hK => ?_) AllReadyH.nil
                go_simp
                refine Calls.mono (HWR.out _ ba) ?_
                rintro e w5 ⟨p5, A5, c5, rfl, k5, q5, b1⟩
                have HBn := Lib.hid (ba.trans (Below.mono b1 ba.size))
                have HIn := Lib.hid (HI4.out.below b1 HI4.out.lt)
                have HKn := Lib.hid k5
                have HQn := Lib.hid q5
                have nf : w3.heap.size ≤ w3.heap.size := Nat.le_refl _
                go_wp2_with fail
                refine hK.out _ _ (HKS.out _ HBn.out) (fun hS1 => ?_)
                clear hK K
                try simp only [Act.put, List.setIfInBounds_toArray, List.set_cons_zero, List.set_cons_succ]
                refine wpAnyH_take (i := 9) (oi := { dst := some 65, op := .move (.tmp 74), type := _, pos := _, after := _, guard := _ }) (v := .tuple #[M p5, .slice A5 nc.length c5, .int .i64 ne]) rfl (by kernel_rfl) (by kernel_rfl) (by kernel_rfl) (fun _ _ _ h => h) (Or.inl ⟨by rfl, ?_⟩) hS1 ?_
                · intro w' hSw
                  go_simp
                try simp only [Act.put, List.setIfInBounds_toArray, List.set_cons_zero, List.set_cons_succ]
                refine wpAnyH_take (i := 10) (oi := { dst := some 75, op := .extract (.tmp 65) 0, type := _, pos := _, after := _, guard := _ }) (v := M p5) rfl (by kernel_rfl) (by kernel_rfl) (by kernel_rfl) (fun _ _ _ h => h) (Or.inl ⟨by rfl, ?_⟩) hS1 ?_
                · intro w' hSw
                  go_simp
                try simp only [Act.put, List.setIfInBounds_toArray, List.set_cons_zero, List.set_cons_succ]
                refine wpAnyH_take (i := 11) (oi := { dst := some 76, op := .extract (.tmp 65) 1, type := _, pos := _, after := _, guard := _ }) (v := .slice A5 nc.length c5) rfl (by kernel_rfl) (by kernel_rfl) (by kernel_rfl) (fun _ _ _ h => h) (Or.inl ⟨by rfl, ?_⟩) hS1 ?_
                · intro w' hSw
                  go_simp
                try simp only [Act.put, List.setIfInBounds_toArray, List.set_cons_zero, List.set_cons_succ]
                refine wpAnyH_take (i := 12) (oi := { dst := some 77, op := .extract (.tmp 65) 2, type := _, pos := _, after := _, guard := _ }) (v := .int .i64 ne) rfl (by kernel_rfl) (by kernel_rfl) (by kernel_rfl) (fun _ _ _ h => h) (Or.inl ⟨by rfl, ?_⟩) hS1 ?_
                · intro w' hSw
                  go_simp
                try simp only [Act.put, List.setIfInBounds_toArray, List.set_cons_zero, List.set_cons_succ]
                have c80 : w5.cell? ⟨w3.heap.size, 0, none⟩ = some (.pointer none) := HIn.out.cell' rfl
                have f80 := HIn.out.frozen 0
                have l80 := HIn.out.lt
                have HIz := Lib.hid (HIn.out.set 0 (.pointer p5) rfl)
                have HKz := Lib.hid (HKn.out.store (i := 0) HIn.out (by decide) (by decide) (.pointer p5))
                have HQz := Lib.hid (HQn.out.keeps (Keeps.store (i := 0) HIn.out (by decide) (.pointer p5)))
                have HBz := Lib.hid (HBn.out.setCell (p := ⟨w3.heap.size, 0, none⟩) nf (.pointer p5))
                refine wpAnyH_ready (rs := [14]) (by kernel_rfl) (by simp) ?_
                refine AllReadyH.cons (o := { dst := none, op := .store 27 (.tmp 15) (.tmp 75), type := _, pos := _, after := _, guard := _ }) rfl (fun K hK => ?_) AllReadyH.nil
                go_simp
                refine hK.out _ _ (HKS.out _ HBz.out) (fun hS9 => ?_)
                clear hK K
                try simp only [Act.put, List.setIfInBounds_toArray, List.set_cons_zero, List.set_cons_succ]
                refine wpAnyH_take (i := 15) (oi := { dst := some 16, op := .assign (.tmp 76), type := _, pos := _, after := _, guard := _ }) (v := .slice A5 nc.length c5) rfl (by kernel_rfl) (by kernel_rfl) (by kernel_rfl) (fun _ _ _ h => h) (Or.inl ⟨by rfl, ?_⟩) hS9 ?_
                · intro w' hSw
                  go_simp
                try simp only [Act.put, List.setIfInBounds_toArray, List.set_cons_zero, List.set_cons_succ]
                refine wpAnyH_take (i := 16) (oi := { dst := some 17, op := .assign (.tmp 77), type := _, pos := _, after := _, guard := _ }) (v := .int .i64 ne) rfl (by kernel_rfl) (by kernel_rfl) (by kernel_rfl) (fun _ _ _ h => h) (Or.inl ⟨by rfl, ?_⟩) hS9 ?_
                · intro w' hSw
                  go_simp
                try simp only [Act.put, List.setIfInBounds_toArray, List.set_cons_zero, List.set_cons_succ]
                refine wpAnyH_done (by kernel_rfl) ?_ _
                go_wp2_with fail
                go_meet
                exact ⟨w3.heap.size, p5, A5, c5, rfl, rfl, rfl, nf, HIz.out, HKz.out, HQz.out, HBz.out⟩
            case rest =>
              obtain ⟨gn, p5, A5, c5, rfl, rfl, rfl, hgn, ign, k5, q5, b1⟩ := hcut
              have HIN := Lib.hid ign
              have HKN := Lib.hid k5
              have HQN := Lib.hid q5
              have hRW := HRW.out _ b1
              replace HI1W := Lib.hid (HI1W.out.below b1 HI1W.out.lt)
              replace HIC := Lib.hid (HIC.out.below b1 HIC.out.lt)
              replace HBW := Lib.hid (HBW.out.trans (b1.mono HBW.out.size))
              replace HKW := Lib.hid (HKW.out.now b1)
              replace HWW := Lib.hid (HWW.out.now b1)
              clear b1 k5 q5 ign a0 a1 a2 a3 a4 a5 a6 a7 n1 nC gC lC l1 HWR HRW
              have a1 : wc.cell? ⟨b, off + j * 9 + 1, none⟩ = some (.int .i64 kind) := (HBW.out.cell (p := ⟨b, off + j * 9 + 1, none⟩) hb).trans (HCS.out 1 _ rfl)
              have a2 : wc.cell? ⟨b, off + j * 9 + 2, none⟩ = some (.string user') := (HBW.out.cell (p := ⟨b, off + j * 9 + 2, none⟩) hb).trans (HCS.out 2 _ rfl)
              have a3 : wc.cell? ⟨b, off + j * 9 + 3, none⟩ = some (.int .i64 id) := (HBW.out.cell (p := ⟨b, off + j * 9 + 3, none⟩) hb).trans (HCS.out 3 _ rfl)
              have a4 : wc.cell? ⟨b, off + j * 9 + 4, none⟩ = some (.int .i64 st') := (HBW.out.cell (p := ⟨b, off + j * 9 + 4, none⟩) hb).trans (HCS.out 4 _ rfl)
              have a5 : wc.cell? ⟨b, off + j * 9 + 5, none⟩ = some (.int .i64 pr) := (HBW.out.cell (p := ⟨b, off + j * 9 + 5, none⟩) hb).trans (HCS.out 5 _ rfl)
              have a6 : wc.cell? ⟨b, off + j * 9 + 6, none⟩ = some (.int .u64 ttl) := (HBW.out.cell (p := ⟨b, off + j * 9 + 6, none⟩) hb).trans (HCS.out 6 _ rfl)
              have a7 : wc.cell? ⟨b, off + j * 9 + 7, none⟩ = some (users') := (HBW.out.cell (p := ⟨b, off + j * 9 + 7, none⟩) hb).trans (HCS.out 7 _ rfl)
              have lbc : b < wc.heap.size := by have := HBW.out.size; omega
              go_wp2_with fail
              refine hRW.mono ?_
              rintro e w7 ⟨A7, c7, A8, c8, rfl, u7, q7, b1⟩
              replace HI1W := Lib.hid (HI1W.out.below b1 HI1W.out.lt)
              replace HIC := Lib.hid (HIC.out.below b1 HIC.out.lt)
              replace HIN := Lib.hid (HIN.out.below b1 HIN.out.lt)
              replace HBW := Lib.hid (HBW.out.trans (b1.mono HBW.out.size))
              replace HKW := Lib.hid (HKW.out.now b1)
              replace HWW := Lib.hid (HWW.out.now b1)
              replace HKN := Lib.hid (HKN.out.now b1)
              replace HQN := Lib.hid (HQN.out.now b1)
              have HJK := Lib.hid (HKW.out.store (i := 0) HIC.out (by decide) (by decide) (.pointer p5))
              have HJW := Lib.hid (HWW.out.keeps (Keeps.store (i := 0) HIC.out (by decide) (.pointer p5)) (Keeps.store (i := 0) HIC.out (by decide) (.pointer p5)))
              have HJU := Lib.hid (u7.keeps (Keeps.store (i := 0) HIC.out (by decide) (.pointer p5)) (Keeps.store (i := 0) HIC.out (by decide) (.pointer p5)))
              have HJN := Lib.hid (HKN.out.store (i := 0) HIC.out (by decide) (by decide) (.pointer p5))
              have HJQ := Lib.hid (HQN.out.keeps (Keeps.store (i := 0) HIC.out (by decide) (.pointer p5)))
              have HJR := Lib.hid (q7.keeps (Keeps.store (i := 0) HIC.out (by decide) (.pointer p5)))
              have HJC := Lib.hid (HIC.out.set 0 (.pointer p5) rfl)
              have HJ1 := Lib.hid (HI1W.out.far (p := ⟨wr.heap.size, 0, none⟩) (by simp only []; omega) (.pointer p5))
              have HJB := Lib.hid (HBW.out.setCell (p := ⟨wr.heap.size, 0, none⟩) s0 (.pointer p5))
              have z0 := HIN.out.cell' (i := 0) rfl
              have z1 := HIC.out.cell' (i := 0) rfl
              have z2 := HIC.out.frozen 0
              have z3 := HIC.out.lt
              have z4 := HIN.out.lt
              have dne : (ne != ne) = false := by simp
              clear hRW b1 u7 q7 a1 a2 a3 a4 a5 a6 a7 HI1W HBW HKW HWW HKN HQN HIC HIN
              go_wp2_with fail
              generalize w7.setCell ⟨wr.heap.size, 0, none⟩ (.pointer p5) = w8 at *
              go_meet
              exact ⟨p5, A5, A7, A8, c5, c7, c8, _, _, rfl, rfl, rfl, hcl, HFS.out, HTE.out, HJQ.out, HJU.out, HJR.out, HJ1.out, HJC.out, HJK.out, HJW.out, HJN.out, HJB.out⟩
        case rest =>
          obtain ⟨p', A1, A2, A3, c1, c2, c3, cs, nb, rfl, rfl, rfl, hcl, hfn, hmade, lq, uU, lR, i1', iC', kb', uw', kn', hB'⟩ := hcut
          clear HI1W HIC HBW HKW HWW a0 a1 a2 a3 a4 a5 a6 a7 n1 nC gC lC l1 HT HUn hub hut hnow HU2 HCS lb lb3 s3
          have HFN := Lib.hid hfn
          have HMD := Lib.hid hmade
          have HLQ := Lib.hid lq
          have HUU := Lib.hid uU
          have HLR := Lib.hid lR
          have HI1 := Lib.hid i1'
          have HIC := Lib.hid iC'
          have HKW := Lib.hid kb'
          have HWW := Lib.hid uw'
          have HKN := Lib.hid kn'
          have HBW := Lib.hid hB'
          have hnl := hfn.len
          clear hfn hmade lq uU lR i1' iC' kb' uw' kn' hB'
          obtain ⟨r, hr⟩ : ∃ r : Bool, (r = true ↔ sb = nb) := by classical exact ⟨decide (sb = nb), by simp⟩
          have HRR := Lib.hid hr
          obtain ⟨s0', s1', s2', hp⟩ : ∃ s0 s1 s2, presS now (sesK user nb) = (s0, s1, s2) := ⟨_, _, _, rfl⟩
          have HP := Lib.hid hp
          obtain ⟨tot, htot⟩ : ∃ t, storedB nb = t := ⟨_, rfl⟩
          have HTOT := Lib.hid htot
          clear hr hp htot
          have n1 := HI1.out.cell' (i := 0) rfl
          have l1 := HI1.out.lt
          have nC := HIC.out.cell' (i := 0) rfl
          have lC := HIC.out.lt
          go_wp2_with fail
          clear n1 l1 nC lC
          refine (users HKW.out (by omega)).mono ?_
          rintro e w4 ⟨A4, c4, rfl, u4, b1⟩
          replace HI1 := Lib.hid (HI1.out.below b1 HI1.out.lt)
          replace HIC := Lib.hid (HIC.out.below b1 HIC.out.lt)
          replace HBW := Lib.hid (HBW.out.trans (b1.mono HBW.out.size))
          replace HKW := Lib.hid (HKW.out.now b1)
          replace HWW := Lib.hid (HWW.out.now b1)
          replace HKN := Lib.hid (HKN.out.now b1)
          replace HUU := Lib.hid (HUU.out.now b1)
          replace HLQ := Lib.hid (HLQ.out.now b1)
          replace HLR := Lib.hid (HLR.out.now b1)
          have HU4 := Lib.hid u4
          clear u4
          clear b1
          have n1 := HI1.out.cell' (i := 0) rfl
          have l1 := HI1.out.lt
          have nC := HIC.out.cell' (i := 0) rfl
          have lC := HIC.out.lt
          go_wp2_with fail
          clear n1 l1 nC lC
          refine (refSame8 (r := true) (by simp) HU4.out HWW.out (HF.out.more (by omega)) (HF.out.more (by omega))).mono ?_
          rintro e w5 ⟨rfl, b1⟩
          replace HI1 := Lib.hid (HI1.out.below b1 HI1.out.lt)
          replace HIC := Lib.hid (HIC.out.below b1 HIC.out.lt)
          replace HBW := Lib.hid (HBW.out.trans (b1.mono HBW.out.size))
          replace HKW := Lib.hid (HKW.out.now b1)
          replace HWW := Lib.hid (HWW.out.now b1)
          replace HKN := Lib.hid (HKN.out.now b1)
          replace HUU := Lib.hid (HUU.out.now b1)
          replace HLQ := Lib.hid (HLQ.out.now b1)
          replace HLR := Lib.hid (HLR.out.now b1)
          clear HU4
          clear b1
          have n1 := HI1.out.cell' (i := 0) rfl
          have l1 := HI1.out.lt
          have nC := HIC.out.cell' (i := 0) rfl
          have lC := HIC.out.lt
          go_wp2_with fail
          clear n1 l1 nC lC
          refine (users HKN.out (by omega)).mono ?_
          rintro e w6 ⟨A6, c6, rfl, u6, b1⟩
          replace HI1 := Lib.hid (HI1.out.below b1 HI1.out.lt)
          replace HIC := Lib.hid (HIC.out.below b1 HIC.out.lt)
          replace HBW := Lib.hid (HBW.out.trans (b1.mono HBW.out.size))
          replace HKW := Lib.hid (HKW.out.now b1)
          replace HWW := Lib.hid (HWW.out.now b1)
          replace HKN := Lib.hid (HKN.out.now b1)
          replace HUU := Lib.hid (HUU.out.now b1)
          replace HLQ := Lib.hid (HLQ.out.now b1)
          replace HLR := Lib.hid (HLR.out.now b1)
          have HU6 := Lib.hid u6
          clear u6
          clear b1
          have n1 := HI1.out.cell' (i := 0) rfl
          have l1 := HI1.out.lt
          have nC := HIC.out.cell' (i := 0) rfl
          have lC := HIC.out.lt
          go_wp2_with fail
          clear n1 l1 nC lC
          refine (refSame8 (r := true) (by simp) HU6.out HUU.out (HFN.out.more (by omega)) (HFN.out.more (by omega))).mono ?_
          rintro e w7 ⟨rfl, b1⟩
          replace HI1 := Lib.hid (HI1.out.below b1 HI1.out.lt)
          replace HIC := Lib.hid (HIC.out.below b1 HIC.out.lt)
          replace HBW := Lib.hid (HBW.out.trans (b1.mono HBW.out.size))
          replace HKW := Lib.hid (HKW.out.now b1)
          replace HWW := Lib.hid (HWW.out.now b1)
          replace HKN := Lib.hid (HKN.out.now b1)
          replace HUU := Lib.hid (HUU.out.now b1)
          replace HLQ := Lib.hid (HLQ.out.now b1)
          replace HLR := Lib.hid (HLR.out.now b1)
          clear HU6
          clear b1
          have n1 := HI1.out.cell' (i := 0) rfl
          have l1 := HI1.out.lt
          have nC := HIC.out.cell' (i := 0) rfl
          have lC := HIC.out.lt
          go_wp2_with fail
          clear n1 l1 nC lC
          refine (changes_ cs A1 A3 c1 c3 _ HLQ.out.seq HLR.out.seq (by omega)).mono ?_
          rintro e w8 ⟨rfl, b1⟩
          replace HI1 := Lib.hid (HI1.out.below b1 HI1.out.lt)
          replace HIC := Lib.hid (HIC.out.below b1 HIC.out.lt)
          replace HBW := Lib.hid (HBW.out.trans (b1.mono HBW.out.size))
          replace HKW := Lib.hid (HKW.out.now b1)
          replace HWW := Lib.hid (HWW.out.now b1)
          replace HKN := Lib.hid (HKN.out.now b1)
          replace HUU := Lib.hid (HUU.out.now b1)
          replace HLQ := Lib.hid (HLQ.out.now b1)
          replace HLR := Lib.hid (HLR.out.now b1)
          clear b1
          have n1 := HI1.out.cell' (i := 0) rfl
          have l1 := HI1.out.lt
          have nC := HIC.out.cell' (i := 0) rfl
          have lC := HIC.out.lt
          go_wp2_with fail
          clear n1 l1 nC lC
          refine (same (r := true) (by simp) HKN.out HKN.out (HFN.out.more (by omega)) (HFN.out.more (by omega))).mono ?_
          rintro e w9 ⟨rfl, b1⟩
          replace HI1 := Lib.hid (HI1.out.below b1 HI1.out.lt)
          replace HIC := Lib.hid (HIC.out.below b1 HIC.out.lt)
          replace HBW := Lib.hid (HBW.out.trans (b1.mono HBW.out.size))
          replace HKW := Lib.hid (HKW.out.now b1)
          replace HWW := Lib.hid (HWW.out.now b1)
          replace HKN := Lib.hid (HKN.out.now b1)
          replace HUU := Lib.hid (HUU.out.now b1)
          replace HLQ := Lib.hid (HLQ.out.now b1)
          replace HLR := Lib.hid (HLR.out.now b1)
          clear b1
          obtain ⟨xs, hx1, hx2, hx3⟩ := HUU.out
          have hxl : nb.length = xs.length := by rw [← hx3, mapV_length]
          have HXS := Lib.hid hx1.seq
          have HXE : Hid (∀ (k : Nat) (hk : k < xs.length), xs[k].2.n ≤ 121 ∧ storedB (nb.take (k + 1)) = storedB (nb.take k) + xs[k].2.n) := fun k hk => by
            have h1 := (hx2 _ (List.getElem_mem hk)).1
            have h2 : xs[k].2.ss.length ≤ 121 := HFN.out.ses (xs[k].1, xs[k].2.en) (by rw [← hx3]; exact List.mem_map.2 ⟨_, List.getElem_mem hk, rfl⟩)
            refine ⟨by omega, ?_⟩
            have e1 : nb.take (k + 1) = nb.take k ++ [(xs[k].1, xs[k].2.en)] := by
              rw [← hx3]
              unfold mapV
              rw [List.take_succ_eq_append_getElem (by simpa using hk)]
              simp
            rw [e1, h1]
            unfold storedB
            simp [EnV.en]
          have hxn : xs.length ≤ 121 := by omega
          have HXL := Lib.hid hxl
          clear hx1 hx2 hx3
          have n1 := HI1.out.cell' (i := 0) rfl
          have nC := HIC.out.cell' (i := 0) rfl
          rw [hxl]
          clear hxl
          go_wp2_with fail
          go_loop [21, 22] (fun nv kv => ∃ (k m : Nat), k ≤ xs.length ∧ kv = .int .i64 k ∧ nv = .int .i64 (m : Int) ∧ m ≤ k * 121 ∧ storedB (nb.take k) = m) (fun _ kv => xs.length - (intOf kv).toNat)
          case atStart => exact ⟨0, 0, Nat.zero_le _, rfl, rfl, by simp, rfl⟩
          case round =>
            obtain ⟨k, m, hk, rfl, rfl, hm, hst⟩ := hrel
            have HSM := Lib.hid hst
            clear hst
            by_cases hkt : k < xs.length
            · obtain ⟨bu, ou, rfl, _, lu, _, q1, _, _, _⟩ := HXS.out.us hkt
              obtain ⟨e1, e2⟩ := HXE.out k hkt
              have HE2 := Lib.hid e2
              clear e2
              generalize xs[k] = x at *
              obtain ⟨xn, vA, vn, vc, vs, vp, vl, ss⟩ := x
              simp only at q1 e1 HE2
              go_wp2_with fail
              go_round
              case rel => exact ⟨k + 1, m + vn, by omega, by go_num, by go_num, by omega, by rw [HE2.out, HSM.out]⟩
              case measure => simp [intOf]; omega
            · have hmt : m = tot := by
                have h1 := HSM.out
                rw [List.take_of_length_le (by have := HXL.out; omega), HTOT.out] at h1
                exact h1.symm
              subst hmt
              clear n1 nC
              have hso := HFN.out.of user
              have n1 := HI1.out.cell' (i := 0) rfl
              have l1 := HI1.out.lt
              have nC := HIC.out.cell' (i := 0) rfl
              have lC := HIC.out.lt
              go_wp2_with fail
              clear n1 l1 nC lC
              have hc := Bk.stored HKN.out (by omega) (fun q hq => by have := HFN.out.ses q hq; omega)
              rw [HTOT.out] at hc
              refine Calls.mono (hc) ?_
              rintro e w10 ⟨rfl, b1⟩
              replace HI1 := Lib.hid (HI1.out.below b1 HI1.out.lt)
              replace HIC := Lib.hid (HIC.out.below b1 HIC.out.lt)
              replace HBW := Lib.hid (HBW.out.trans (b1.mono HBW.out.size))
              replace HKW := Lib.hid (HKW.out.now b1)
              replace HWW := Lib.hid (HWW.out.now b1)
              replace HKN := Lib.hid (HKN.out.now b1)
              replace HUU := Lib.hid (HUU.out.now b1)
              clear hc
              have d2 : ((m : Int) != (m : Int)) = false := by simp
              clear b1
              have n1 := HI1.out.cell' (i := 0) rfl
              have l1 := HI1.out.lt
              have nC := HIC.out.cell' (i := 0) rfl
              have lC := HIC.out.lt
              go_wp2_with fail
              clear n1 l1 nC lC
              refine Calls.mono (presence user now HP.out HKN.out HFN.out.book.1 (by omega)) ?_
              rintro e w11 ⟨rfl, b1⟩
              replace HI1 := Lib.hid (HI1.out.below b1 HI1.out.lt)
              replace HIC := Lib.hid (HIC.out.below b1 HIC.out.lt)
              replace HBW := Lib.hid (HBW.out.trans (b1.mono HBW.out.size))
              replace HKW := Lib.hid (HKW.out.now b1)
              replace HWW := Lib.hid (HWW.out.now b1)
              replace HKN := Lib.hid (HKN.out.now b1)
              replace HUU := Lib.hid (HUU.out.now b1)
              clear b1
              rw [← HXL.out]
              have n1 := HI1.out.cell' (i := 0) rfl
              have l1 := HI1.out.lt
              have nC := HIC.out.cell' (i := 0) rfl
              have lC := HIC.out.lt
              go_wp2_with fail
              clear n1 l1 nC lC
              refine Calls.mono (refPresence user now HP.out HUU.out HFN.out.book.1 (by omega) (by omega)) ?_
              rintro e w12 ⟨rfl, b1⟩
              replace HI1 := Lib.hid (HI1.out.below b1 HI1.out.lt)
              replace HIC := Lib.hid (HIC.out.below b1 HIC.out.lt)
              replace HBW := Lib.hid (HBW.out.trans (b1.mono HBW.out.size))
              replace HKW := Lib.hid (HKW.out.now b1)
              replace HWW := Lib.hid (HWW.out.now b1)
              replace HKN := Lib.hid (HKN.out.now b1)
              replace HUU := Lib.hid (HUU.out.now b1)
              clear b1
              have n1 := HI1.out.cell' (i := 0) rfl
              have l1 := HI1.out.lt
              have nC := HIC.out.cell' (i := 0) rfl
              have lC := HIC.out.lt
              go_wp2_with fail
              clear n1 l1 nC lC
              refine Calls.mono (same HRR.out HKW.out HKN.out (HF.out.more (by omega)) (HFN.out.more (by omega))) ?_
              rintro e w13 ⟨rfl, b1⟩
              replace HI1 := Lib.hid (HI1.out.below b1 HI1.out.lt)
              replace HIC := Lib.hid (HIC.out.below b1 HIC.out.lt)
              replace HBW := Lib.hid (HBW.out.trans (b1.mono HBW.out.size))
              replace HKW := Lib.hid (HKW.out.now b1)
              replace HWW := Lib.hid (HWW.out.now b1)
              replace HKN := Lib.hid (HKN.out.now b1)
              replace HUU := Lib.hid (HUU.out.now b1)
              clear b1
              have n1 := HI1.out.cell' (i := 0) rfl
              have l1 := HI1.out.lt
              have nC := HIC.out.cell' (i := 0) rfl
              have lC := HIC.out.lt
              go_wp2_with fail
              clear n1 l1 nC lC
              refine Calls.mono (refSame8 HRR.out HWW.out HUU.out (HF.out.more (by omega)) (HFN.out.more (by omega))) ?_
              rintro e w14 ⟨rfl, b1⟩
              replace HI1 := Lib.hid (HI1.out.below b1 HI1.out.lt)
              replace HIC := Lib.hid (HIC.out.below b1 HIC.out.lt)
              replace HBW := Lib.hid (HBW.out.trans (b1.mono HBW.out.size))
              replace HKW := Lib.hid (HKW.out.now b1)
              replace HWW := Lib.hid (HWW.out.now b1)
              replace HKN := Lib.hid (HKN.out.now b1)
              replace HUU := Lib.hid (HUU.out.now b1)
              have dr : (r != r) = false := by simp
              clear b1
              have n1 := HI1.out.cell' (i := 0) rfl
              have l1 := HI1.out.lt
              have nC := HIC.out.cell' (i := 0) rfl
              have lC := HIC.out.lt
              have g1 := HI1.out.frozen 0
              have HJK := Lib.hid (HKN.out.store (i := 0) HI1.out (by decide) (by decide) (.pointer p'))
              have HJU := Lib.hid (HUU.out.keeps (Keeps.store (i := 0) HI1.out (by decide) (.pointer p')) (Keeps.store (i := 0) HI1.out (by decide) (.pointer p')))
              have HJ1 := Lib.hid (HI1.out.set 0 (.pointer p') rfl)
              have HJB := Lib.hid (HBW.out.setCell (p := ⟨w1.heap.size, 0, none⟩) hgw (.pointer p'))
              clear HI1 HIC HBW HKW HWW HKN HUU
              go_wp2_with fail
              go_roundw
              case rel => exact ⟨j + 1, p', A2, c2, by omega, by go_num, by rw [HMD.out], by rw [HMD.out], HJ1.out, by rw [HMD.out]; exact HJK.out, by rw [HMD.out]; exact HJU.out, HJB.out⟩
              case measure => simp [intOf]; omega
      · have HBF := HBW
        clear HKW HI1W HF HWW
        go_wp2_with fail
        go_ret
        exact ⟨rfl, HBF.out⟩

set_option maxRecDepth 100000 in
theorem lifted (os : Os) (started : os.Started) (H : Type) (enc : TypeId × Value → H) :
    ReturnsInHanded {} Try.checked os 3 .any (Rows.bookPlaysSpec.pre6 enc Try.prog Try.f3 Rows.bookPlaysRow.domain false) (Rows.bookPlaysSpec.post enc Try.prog Try.f3 false true false false) := by
  refine returnsInHanded_of_change (C := Try.checked) own started (by kernel_rfl) Try.func3
    (ChangeSpec.witness6 (enc := enc) (C := Try.checked) false ⟨#[], #[.slice none 0 0, .int .i64 0, .string ⟨#[]⟩], []⟩ 8 (by kernel_rfl) (by kernel_rfl) (by kernel_rfl) (by kernel_rfl)) ?_
  intro W base args ds gs before hval0 hW hcnd _
  have hval : ∀ (j : Nat) t v, Try.f3.params[j]? = some t → args[j]? = some v → Value.okWide Try.prog W .any base t v := hval0
  have hW' := hW
  obtain ⟨p, q, hA0, hV, rfl, hfz, hnd⟩ := hW
  have hA : DataW.TrodAll enc Try.prog W 0 (fun _ => true) true Try.f3.params.toList args.toList ds p := hA0
  rw [Try.params3] at hA hval
  obtain ⟨v0, vs0, d0, ds0, p0, q0, hargs, rfl, rfl, h0, r0⟩ := trodAll_cons hA
  obtain ⟨v1, vs1, d1, ds1, p1, q1, rfl, rfl, rfl, h1, r1⟩ := trodAll_cons r0
  obtain ⟨v2, vs2, d2, ds2, p2, q2, rfl, rfl, rfl, h2, r2⟩ := trodAll_cons r1
  obtain ⟨rfl, rfl, rfl⟩ := trodAll_nil r2
  obtain rfl : args = #[v0, v1, v2] := by cases args; simp_all
  obtain ⟨A, c, l, rfl, hs, hl, hq⟩ := open_acts (hval 0 22 v0 rfl rfl) h0
  obtain ⟨a1, rfl, rfl, rfl, w1⟩ := open_int Try.underlying3 (hval 1 3 v1 rfl rfl) h1
  obtain ⟨a2, rfl, rfl, rfl, w2⟩ := Go.ChangeMaps.open_string Try.underlying9 (hval 2 9 v2 rfl rfl) h2
  refine (walk l A c a1 a2 w2 W hs hl hq).mono fun e W' ⟨he, bel⟩ => ?_
  subst he
  exact ⟨_, rfl, Law.post_law laidOut (by kernel_rfl) (by kernel_rfl) Try.underlying4 rfl (fun ds h => by match ds, h with | [_, _, _], _ => rfl) hW' bel⟩

theorem proved : Rows.BookPlaysSaid :=
  OpenClaim.holds_of_wide 3 Try.f3 rfl rfl rfl rfl rfl rfl rfl ⟨rfl, rfl, rfl, rfl, rfl⟩ rfl rfl rfl rfl rfl (by kernel_rfl) Try.func3 (by kernel_rfl)
    (of_decide_eq_true (by kernel_rfl)) (by unfold Func.isWrapper; rw [if_neg (by decide +kernel)]; exact ⟨rfl, rfl⟩)
    (fun os started H enc _ => lifted os started H enc)
#print axioms proved
end Go.Proofs.Ytjjemdmbhgmiiaa.bookPlays
