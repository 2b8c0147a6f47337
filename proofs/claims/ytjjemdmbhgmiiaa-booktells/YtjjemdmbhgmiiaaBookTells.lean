/-
  BookTells: whatever the acts and the number, the statement's function returns true, and the arguments read as before. No condition.
-/
import Derived.Test.YtjjemdmbhgmiiaaBook08
import Derived.Test.YtjjemdmbhgmiiaaBookT
import Derived.Lib.QuietBelow
import Derived.BigQuiet
import Derived.Deep.RegionLaw
namespace Go.Proofs.Ytjjemdmbhgmiiaa.bookTells
open Go.ChangeShapes Go.WideShapes Go.ChangeAt Go.RowKit
open Go.Law Go.Proofs.Ytjjemdmbhgmiiaa.Bk Go.Proofs.Ytjjemdmbhgmiiaa.OmapB Door Go.Sort
theorem elemN : ∃ i, Law.Elem Try.prog 31 9 i (.string .empty) 1 16 := Law.Elem.of Try.underlying31 (by kernel_rfl) rfl (by decide)
theorem elemP : ∃ i, Law.Elem Try.prog 65 53 i (.agg #[.int .i64 0, .int .i64 0, .int .i64 0]) 3 24 := Law.Elem.of Try.underlying65 (by kernel_rfl) rfl (by decide)
/-- what was told last of each user, in two rows -/
structure Kept2 (base : Nat) (nv tv : Value) (nt : List (ByteArray × Pr)) (w : World) : Prop where
  names : w.ownsRow base 9 1 nv nt.length (nt.map fun q => .string q.1)
  told : w.ownsRow base 53 3 tv nt.length (flatP (nt.map (·.2)))

set_option maxRecDepth 100000 in
set_option maxHeartbeats 8000000 in
theorem walk (l : List ActV) (A : Option Addr) (c : Nat) (most : Int) (w : World) (hs : Seq w 0 w.heap.size A (flatA l)) (hl : l.length ≤ maxLen) (hq : ∀ q ∈ l, q.Good) :
    Calls Try.prog 5 #[.slice A l.length c, .int .i64 most] w fun e w' => e = .returned (.bool true) ∧ Below w.heap.size w w' := by
  have HS := Lib.hid hs
  have HSW := Lib.hid hs
  have HQ := Lib.hid hq
  have HL := Lib.hid hl
  have HB := Lib.hid (Below.refl w.heap.size w)
  clear hs hq hl
  go_enter Try.func5, Try.ntmps5
  go_wp2_with fail
  refine (awake _).mono ?_
  rintro e w1 ⟨rfl, b1⟩
  replace HS := Lib.hid ((HS.out.below b1).more b1.size)
  replace HB := Lib.hid (HB.out.trans (b1.mono HB.out.size))
  clear b1
  go_wp2_with fail
  refine (long_ l A c _ HS.out HL.out HQ.out).mono ?_
  rintro e w' ⟨rfl, rfl⟩
  cases hlong : longB l with
  | true =>
    go_wp2_with fail
    refine (awake _).mono ?_
    rintro e w2 ⟨rfl, b1⟩
    replace HB := Lib.hid (HB.out.trans (b1.mono HB.out.size))
    clear b1
    go_wp2_with fail
    go_ret
    exact ⟨rfl, HB.out⟩
  | false =>
    have hl2 := long_le hlong
    clear hlong HS
    go_wp2_with fail
    have hgw : w.heap.size ≤ w1.heap.size := HB.out.size
    have HI1 := Lib.hid (Is.new w1 27 #[.pointer none] rfl)
    have bx := (Below.refl w1.heap.size w1).alloc (Nat.le_refl _) (.cells #[.pointer none] 27)
    replace HB := Lib.hid (HB.out.trans (bx.mono HB.out.size))
    generalize w1.alloc (.cells #[.pointer none] 27) = w2 at *
    clear bx
    go_loopw [6, 7, 8, 9] (fun nowv nv tv iv wr => ∃ (j : Nat) (p : Option Addr) (nt : List (ByteArray × Pr)), j ≤ l.length ∧ iv = .int .i64 j ∧ nowv = .int .u64 (madeB most (l.take j)).2 ∧ nt.length ≤ j * 121 ∧ (nt.map (·.1)).Nodup ∧ (∀ u, lookT u nt = toldK u (madeB most (l.take j)).1) ∧ Kept2 w.heap.size nv tv nt wr ∧ Is wr w1.heap.size 27 #[.pointer p] ∧ Booked wr p (madeB most (l.take j)).1 ∧ Below w.heap.size w wr) (fun _ _ _ iv _ => l.length - (intOf iv).toNat)
    case atStart => exact ⟨0, none, [], Nat.zero_le _, rfl, rfl, by simp, by simp, fun u => rfl, ⟨World.ownsRow_nil _ _ _ _, World.ownsRow_nil _ _ _ _⟩, HI1.out, Booked.nil _, HB.out⟩
    case round =>
      obtain ⟨j, p, nt, hj, rfl, rfl, hnl, hnd, hlk, hk2, i1, hk, hB⟩ := hrel
      have hmf := made_fit most (l.take j) (fun q hq => HQ.out q (List.mem_of_mem_take hq))
      have hjl : (l.take j).length ≤ 120 := by simp; omega
      have HF := Lib.hid (hmf.1.more hjl)
      have HUn := Lib.hid hmf.2
      have HND := Lib.hid hnd
      have HLK := Lib.hid hlk
      have HI1W := Lib.hid i1
      have HKW := Lib.hid hk
      have HBW := Lib.hid hB
      obtain ⟨AN, cN, rfl, _⟩ := own_shape hk2.names
      obtain ⟨AT, cT, rfl, _⟩ := own_shape hk2.told
      have HK2 := Lib.hid hk2
      have s0 := hB.size
      clear i1 hk hB hmf hjl HI1 HB hnd hlk hk2
      by_cases hlt : j < l.length
      · obtain ⟨b, off, rfl, hb, cs⟩ := (HSW.out.below HBW.out).act hlt
        have HT : Hid (madeB most (l.take (j + 1)) = actB most (madeB most (l.take j)) l[j]) := by show _ = _; rw [List.take_succ_eq_append_getElem hlt, madeB_snoc]
        have hgd := HQ.out _ (List.getElem_mem hlt)
        have lb : b < wr.heap.size := by omega
        generalize madeB most (l.take j) = st at *
        obtain ⟨sb, sn⟩ := st
        generalize l[j] = q at *
        obtain ⟨qs, ⟨kind, user, id, st', pr, ttl, users⟩, qb⟩ := q
        have hub := Lib.hid (ofwf hgd.by_)
        have hut := Lib.hid (ofwf hgd.op.ttl)
        simp only at hub hut HF HUn HKW HLK
        have a0 : wr.cell? ⟨b, off + j * 9, none⟩ = some (.bool qs) := cs 0 _ rfl
        have a1 := cs 1 _ rfl
        have a2 := cs 2 _ rfl
        have a3 := cs 3 _ rfl
        have a4 := cs 4 _ rfl
        have a5 := cs 5 _ rfl
        have a6 := cs 6 _ rfl
        have a7 := cs 7 _ rfl
        have a8 := cs 8 _ rfl
        simp only at a1 a2 a3 a4 a5 a6 a7 a8
        have n1 := HI1W.out.cell' (i := 0) rfl
        have g1 := HI1W.out.frozen 0
        have m1 := HI1W.out.lt
        have hsl := HF.out.len
        clear cs hgd
        go_wp2_with fail
        refine (later sn qb HUn.out hub.out _).mono ?_
        rintro e w' ⟨rfl, rfl⟩
        have HU2 := Lib.hid (sat_U HUn.out hub.out)
        generalize hnow : sat sn qb = now at *
        go_upto_if 38 with (fail)
        go_cut [10] (fun v10 wx => ∃ (p' A' : Option Addr) (c' : Nat) (cs : List Ch) (nb : List (ByteArray × En)), v10 = .slice A' cs.length c' ∧ cs.length ≤ 120 ∧ Fit 121 nb ∧ madeB most (l.take (j + 1)) = (nb, now) ∧ Tells lt now sb nb cs ∧ Lain 67 wx A' (flatC cs) ∧ Kept2 w.heap.size (.slice AN nt.length cN) (.slice AT nt.length cT) nt wx ∧ Is wx w1.heap.size 27 #[.pointer p'] ∧ Booked wx p' nb ∧ Below w.heap.size w wx)
        case first =>
          cases qs with
          | true =>
            have HTE : Hid (madeB most (l.take (j + 1)) = (sweepB now sb, now)) := by show _ = _; rw [HT.out]; unfold actB; simp [hnow]
            clear HT a1 a2 a3 a4 a5 a6 a7 a8 hnow
            go_wp2_with fail
            refine (sweep now HKW.out HF.out.book.1 (by omega) (fun q hq => by have := HF.out.ses q hq; omega)).mono ?_
            rintro e w5 ⟨p5, A5, c5, rfl, k5, q5, b1⟩
            replace HI1W := Lib.hid (HI1W.out.below b1 HI1W.out.lt)
            replace HBW := Lib.hid (HBW.out.trans (b1.mono HBW.out.size))
            have hcl : (sweepC now sb).length ≤ 120 := Nat.le_trans (List.length_filterMap_le _ _) hsl
            have HK5 := Lib.hid (k5.store (i := 0) HI1W.out (by decide) (by decide) (.pointer p5))
            have HQ5 := Lib.hid (q5.keeps (Keeps.store (i := 0) HI1W.out (by decide) (.pointer p5)))
            have HJ1 := Lib.hid (HI1W.out.set 0 (.pointer p5) rfl)
            have HJB := Lib.hid (HBW.out.setCell (p := ⟨w1.heap.size, 0, none⟩) hgw (.pointer p5))
            have HJ2 : Hid (Kept2 w.heap.size (.slice AN nt.length cN) (.slice AT nt.length cT) nt (w5.setCell ⟨w1.heap.size, 0, none⟩ (.pointer p5))) :=
              ⟨(own_below HK2.out.names b1).kept (grownBy_setCell' w5 w1.heap.size (.pointer p5)) (.inr (own_ne (own_below HK2.out.names b1) HI1W.out (by decide))), (own_below HK2.out.told b1).kept (grownBy_setCell' w5 w1.heap.size (.pointer p5)) (.inr (own_ne (own_below HK2.out.told b1) HI1W.out (by decide)))⟩
            have z1 := HI1W.out.cell' (i := 0) rfl
            have z2 := HI1W.out.frozen 0
            have z3 := HI1W.out.lt
            have HTS := Lib.hid (tells_sweep lt tri (now := now) HF.out.book.1)
            have HFS := Lib.hid ((HF.out.sweep (now := now)).more (by omega : 120 ≤ 121))
            clear k5 q5 b1 n1 g1 m1 a0 HI1W HBW HKW HK2
            go_wp2_with fail
            go_meet
            exact ⟨p5, A5, c5, _, _, rfl, hcl, HFS.out, HTE.out, HTS.out, HQ5.out, HJ2.out, HJ1.out, HK5.out, HJB.out⟩
          | false =>
            have HTE : Hid (madeB most (l.take (j + 1)) = (wrB ⟨kind, user, id, st', pr, ttl, users⟩ now most sb, now)) := by show _ = _; rw [HT.out]; unfold actB; simp [hnow]
            have HWR : Hid (∀ W, Kept wr W → Calls Try.prog 14 #[.agg #[.pointer p], .agg #[.int .i64 kind, .string user, .int .i64 id, .int .i64 st', .int .i64 pr, .int .u64 ttl, users], .int .u64 now, .int .i64 most] W (Wrote W (wrB ⟨kind, user, id, st', pr, ttl, users⟩ now most sb) (wrC ⟨kind, user, id, st', pr, ttl, users⟩ now most sb) (wrE ⟨kind, user, id, st', pr, ttl, users⟩ now most sb))) := fun W K =>
              write ⟨kind, user, id, st', pr, ttl, users⟩ now most HU2.out hut.out (HKW.out.now K) HF.out.book (by have := HF.out.of user; simp only; omega) (by omega)
            have HTS : Hid (Tells lt now sb (wrB ⟨kind, user, id, st', pr, ttl, users⟩ now most sb) (wrC ⟨kind, user, id, st', pr, ttl, users⟩ now most sb)) := tells_become lt tri user _
            have HFS := Lib.hid (HF.out.write (q := ⟨kind, user, id, st', pr, ttl, users⟩) (now := now) (most := most))
            have hcs : wrC ⟨kind, user, id, st', pr, ttl, users⟩ now most sb = [] ∨ ∃ o nw, wrC ⟨kind, user, id, st', pr, ttl, users⟩ now most sb = [(user, o, nw)] := by
              unfold wrC tells
              split
              · exact .inl rfl
              · exact .inr ⟨_, _, rfl⟩
            clear HT a8 hnow
            generalize wrB ⟨kind, user, id, st', pr, ttl, users⟩ now most sb = nb at *
            generalize wrC ⟨kind, user, id, st', pr, ttl, users⟩ now most sb = nc at *
            generalize wrE ⟨kind, user, id, st', pr, ttl, users⟩ now most sb = ne at *
            go_wp2_with fail
            refine wp_region_held_drew (S := fun w' => w'.cell? ⟨b, off + j * 9 + 1, none⟩ = some (.int .i64 kind) ∧ w'.cell? ⟨b, off + j * 9 + 2, none⟩ = some (.string user) ∧ w'.cell? ⟨b, off + j * 9 + 3, none⟩ = some (.int .i64 id) ∧ w'.cell? ⟨b, off + j * 9 + 4, none⟩ = some (.int .i64 st') ∧ w'.cell? ⟨b, off + j * 9 + 5, none⟩ = some (.int .i64 pr) ∧ w'.cell? ⟨b, off + j * 9 + 6, none⟩ = some (.int .u64 ttl) ∧ w'.cell? ⟨b, off + j * 9 + 7, none⟩ = some (users)) (by kernel_rfl) ⟨a1, a2, a3, a4, a5, a6, a7⟩ (fun hS0 => ?_)
            refine wpAnyH_take (i := 1) (oi := { dst := some 47, op := .move (.tmp 0), type := _, pos := _, after := _, guard := _ }) (v := .slice (some ⟨b, off, none⟩) l.length c) rfl (by kernel_rfl) (by kernel_rfl) (by kernel_rfl) (fun _ _ _ h => h) (Or.inl ⟨by rfl, ?_⟩) hS0 ?_
            · intro w' hSw
              go_simp
            try simp only [Act.put, List.setIfInBounds_toArray, List.set_cons_zero, List.set_cons_succ]
            refine wpAnyH_take (i := 2) (oi := { dst := some 48, op := .move (.tmp 9), type := _, pos := _, after := _, guard := _ }) (v := .int .i64 (j : Int)) rfl (by kernel_rfl) (by kernel_rfl) (by kernel_rfl) (fun _ _ _ h => h) (Or.inl ⟨by rfl, ?_⟩) hS0 ?_
            · intro w' hSw
              go_simp
            try simp only [Act.put, List.setIfInBounds_toArray, List.set_cons_zero, List.set_cons_succ]
            refine wpAnyH_take (i := 3) (oi := { dst := some 49, op := .indexAddr 22 (.tmp 47) (.tmp 48), type := _, pos := _, after := _, guard := _ }) (v := .pointer (some ⟨b, off + j * 9, none⟩)) rfl (by kernel_rfl) (by kernel_rfl) (by kernel_rfl) (fun _ _ _ h => h) (Or.inl ⟨by rfl, ?_⟩) hS0 ?_
            · intro w' hSw
              go_simp
            try simp only [Act.put, List.setIfInBounds_toArray, List.set_cons_zero, List.set_cons_succ]
            refine wpAnyH_take (i := 4) (oi := { dst := some 50, op := .fieldAddr 35 (.tmp 49) 1, type := _, pos := _, after := _, guard := _ }) (v := .pointer (some ⟨b, off + j * 9 + 1, none⟩)) rfl (by kernel_rfl) (by kernel_rfl) (by kernel_rfl) (fun _ _ _ h => h) (Or.inl ⟨by rfl, ?_⟩) hS0 ?_
            · intro w' hSw
              go_simp
            try simp only [Act.put, List.setIfInBounds_toArray, List.set_cons_zero, List.set_cons_succ]
            refine wpAnyH_take (i := 5) (oi := { dst := some 51, op := .load 33 (.tmp 50), type := _, pos := _, after := _, guard := _ }) (v := .agg #[.int .i64 kind, .string user, .int .i64 id, .int .i64 st', .int .i64 pr, .int .u64 ttl, users]) rfl (by kernel_rfl) (by kernel_rfl) (by kernel_rfl) (fun _ _ _ h => h) (Or.inl ⟨by rfl, ?_⟩) hS0 ?_
            · intro w' hSw
              go_simp
            try simp only [Act.put, List.setIfInBounds_toArray, List.set_cons_zero, List.set_cons_succ]
            refine wpAnyH_take (i := 6) (oi := { dst := some 52, op := .move (.tmp 6), type := _, pos := _, after := _, guard := _ }) (v := .int .u64 now) rfl (by kernel_rfl) (by kernel_rfl) (by kernel_rfl) (fun _ _ _ h => h) (Or.inl ⟨by rfl, ?_⟩) hS0 ?_
            · intro w' hSw
              go_simp
            try simp only [Act.put, List.setIfInBounds_toArray, List.set_cons_zero, List.set_cons_succ]
            refine wpAnyH_take (i := 7) (oi := { dst := some 53, op := .move (.tmp 1), type := _, pos := _, after := _, guard := _ }) (v := .int .i64 most) rfl (by kernel_rfl) (by kernel_rfl) (by kernel_rfl) (fun _ _ _ h => h) (Or.inl ⟨by rfl, ?_⟩) hS0 ?_
            · intro w' hSw
              go_simp
            try simp only [Act.put, List.setIfInBounds_toArray, List.set_cons_zero, List.set_cons_succ]
            refine wpAnyH_ready (rs := [0]) (by kernel_rfl) (by simp) ?_
            refine AllReadyH.cons (o := { dst := some 46, op := .load 27 (.tmp 5), type := _, pos := _, after := _, guard := _ }) rfl (fun K hK => ?_) AllReadyH.nil
            go_simp
            refine hK.out _ _ hS0 (fun hS1 => ?_)
            clear hK K
            try simp only [Act.put, List.setIfInBounds_toArray, List.set_cons_zero, List.set_cons_succ]
            refine wpAnyH_ready (rs := [8]) (by kernel_rfl) (by simp) ?_
            refine AllReadyH.cons (o := { dst := some 54, op := .call { callee := .value (.func 14), args := #[.tmp 46, .tmp 51, .tmp 52, .tmp 53], argTypes := #[27, 33, 29, 3] }, type := _, pos := _, after := _, guard := _ }) rfl (fun K hK => ?_) AllReadyH.nil
            go_simp
            refine Calls.mono (HWR.out _ (Kept.drew wr)) ?_
            rintro e w5 ⟨p5, A5, c5, rfl, k5, q5, b1⟩
            have b2 : Below wr.heap.size wr w5 := Below.trans (Kept.drew wr) (Below.mono b1 (Nat.le_refl _))
            go_wp2_with fail
            refine hK.out _ _ (by obtain ⟨y1, y2, y3, y4, y5, y6, y7⟩ := hS1; exact ⟨(b1.cell (p := ⟨b, off + j * 9 + 1, none⟩) lb).trans y1, (b1.cell (p := ⟨b, off + j * 9 + 2, none⟩) lb).trans y2, (b1.cell (p := ⟨b, off + j * 9 + 3, none⟩) lb).trans y3, (b1.cell (p := ⟨b, off + j * 9 + 4, none⟩) lb).trans y4, (b1.cell (p := ⟨b, off + j * 9 + 5, none⟩) lb).trans y5, (b1.cell (p := ⟨b, off + j * 9 + 6, none⟩) lb).trans y6, (b1.cell (p := ⟨b, off + j * 9 + 7, none⟩) lb).trans y7⟩) (fun hS2 => ?_)
            clear hK K
            try simp only [Act.put, List.setIfInBounds_toArray, List.set_cons_zero, List.set_cons_succ]
            refine wpAnyH_take (i := 9) (oi := { dst := some 45, op := .move (.tmp 54), type := _, pos := _, after := _, guard := _ }) (v := .tuple #[M p5, .slice A5 nc.length c5, .int .i64 ne]) rfl (by kernel_rfl) (by kernel_rfl) (by kernel_rfl) (fun _ _ _ h => h) (Or.inl ⟨by rfl, ?_⟩) hS2 ?_
            · intro w' hSw
              go_simp
            try simp only [Act.put, List.setIfInBounds_toArray, List.set_cons_zero, List.set_cons_succ]
            refine wpAnyH_take (i := 10) (oi := { dst := some 55, op := .extract (.tmp 45) 0, type := _, pos := _, after := _, guard := _ }) (v := M p5) rfl (by kernel_rfl) (by kernel_rfl) (by kernel_rfl) (fun _ _ _ h => h) (Or.inl ⟨by rfl, ?_⟩) hS2 ?_
            · intro w' hSw
              go_simp
            try simp only [Act.put, List.setIfInBounds_toArray, List.set_cons_zero, List.set_cons_succ]
            refine wpAnyH_take (i := 11) (oi := { dst := some 56, op := .extract (.tmp 45) 1, type := _, pos := _, after := _, guard := _ }) (v := .slice A5 nc.length c5) rfl (by kernel_rfl) (by kernel_rfl) (by kernel_rfl) (fun _ _ _ h => h) (Or.inl ⟨by rfl, ?_⟩) hS2 ?_
            · intro w' hSw
              go_simp
            try simp only [Act.put, List.setIfInBounds_toArray, List.set_cons_zero, List.set_cons_succ]
            refine wpAnyH_take (i := 12) (oi := { dst := some 57, op := .extract (.tmp 45) 2, type := _, pos := _, after := _, guard := _ }) (v := .int .i64 ne) rfl (by kernel_rfl) (by kernel_rfl) (by kernel_rfl) (fun _ _ _ h => h) (Or.inl ⟨by rfl, ?_⟩) hS2 ?_
            · intro w' hSw
              go_simp
            try simp only [Act.put, List.setIfInBounds_toArray, List.set_cons_zero, List.set_cons_succ]
            replace HI1W := Lib.hid (HI1W.out.below b2 HI1W.out.lt)
            replace HBW := Lib.hid (HBW.out.trans (b2.mono HBW.out.size))
            have HK5 := Lib.hid (k5.store (i := 0) HI1W.out (by decide) (by decide) (.pointer p5))
            have HQ5 := Lib.hid (q5.keeps (Keeps.store (i := 0) HI1W.out (by decide) (.pointer p5)))
            have HJ1 := Lib.hid (HI1W.out.set 0 (.pointer p5) rfl)
            have HJB := Lib.hid (HBW.out.setCell (p := ⟨w1.heap.size, 0, none⟩) hgw (.pointer p5))
            have HJ2 : Hid (Kept2 w.heap.size (.slice AN nt.length cN) (.slice AT nt.length cT) nt (w5.setCell ⟨w1.heap.size, 0, none⟩ (.pointer p5))) :=
              ⟨(own_below HK2.out.names b2).kept (grownBy_setCell' w5 w1.heap.size (.pointer p5)) (.inr (own_ne (own_below HK2.out.names b2) HI1W.out (by decide))), (own_below HK2.out.told b2).kept (grownBy_setCell' w5 w1.heap.size (.pointer p5)) (.inr (own_ne (own_below HK2.out.told b2) HI1W.out (by decide)))⟩
            have z1 := HI1W.out.cell' (i := 0) rfl
            have z2 := HI1W.out.frozen 0
            have z3 := HI1W.out.lt
            have a2' : (w5.setCell ⟨w1.heap.size, 0, none⟩ (.pointer p5)).cell? ⟨b, off + j * 9 + 2, none⟩ = some (.string user) := (World.cell?_setCell_far _ _ _ _ (by simp only []; omega)).trans hS2.2.1
            refine wpAnyH_ready (rs := [13]) (by kernel_rfl) (by simp) ?_
            refine AllReadyH.cons (o := { dst := none, op := .store 27 (.tmp 5) (.tmp 55), type := _, pos := _, after := _, guard := _ }) rfl (fun K hK => ?_) AllReadyH.nil
            go_simp
            refine hK.out _ _ (by obtain ⟨y1, y2, y3, y4, y5, y6, y7⟩ := hS2; exact ⟨(World.cell?_setCell_far _ _ _ _ (by simp only []; omega)).trans y1, (World.cell?_setCell_far _ _ _ _ (by simp only []; omega)).trans y2, (World.cell?_setCell_far _ _ _ _ (by simp only []; omega)).trans y3, (World.cell?_setCell_far _ _ _ _ (by simp only []; omega)).trans y4, (World.cell?_setCell_far _ _ _ _ (by simp only []; omega)).trans y5, (World.cell?_setCell_far _ _ _ _ (by simp only []; omega)).trans y6, (World.cell?_setCell_far _ _ _ _ (by simp only []; omega)).trans y7⟩) (fun hS3 => ?_)
            clear hK K
            try simp only [Act.put, List.setIfInBounds_toArray, List.set_cons_zero, List.set_cons_succ]
            refine wpAnyH_take (i := 14) (oi := { dst := some 10, op := .assign (.tmp 56), type := _, pos := _, after := _, guard := _ }) (v := .slice A5 nc.length c5) rfl (by kernel_rfl) (by kernel_rfl) (by kernel_rfl) (fun _ _ _ h => h) (Or.inl ⟨by rfl, ?_⟩) hS3 ?_
            · intro w' hSw
              go_simp
            try simp only [Act.put, List.setIfInBounds_toArray, List.set_cons_zero, List.set_cons_succ]
            refine wpAnyH_done (by kernel_rfl) ?_ _
            clear k5 q5 b1 b2 n1 g1 m1 a0 a1 a2 a3 a4 a5 a6 a7 HI1W HBW HKW hS0 hS1 hS2 hS3 z1 z2 z3 HWR HK2
            generalize w5.setCell ⟨w1.heap.size, 0, none⟩ (.pointer p5) = w6 at *
            have l6 := HJ1.out.lt
            have lb6 : b < w6.heap.size := by have := HJB.out.size; omega
            rcases hcs with rfl | ⟨o, nw, rfl⟩
            · go_wp2_with fail
              go_quiet (fail)
              go_wp2_with fail
              go_meet
              exact ⟨p5, _, c5, _, _, rfl, by simp, HFS.out, HTE.out, HTS.out, HQ5.out.keeps (Keeps.drewN _ _ _), ⟨own_drewN HJ2.out.names _, own_drewN HJ2.out.told _⟩, HJ1.out.drewN _, HK5.out.calm ⟨Keeps.drewN _ _ _, Keeps.drewN _ _ _⟩, below_drewN HJB.out _⟩
            · obtain ⟨bx, ox, rfl, _, lx, x0, _⟩ := HQ5.out.seq.ch (i := 0) (by simp)
              simp only [List.getElem_cons_zero, Nat.zero_mul, Nat.add_zero] at x0
              go_wp2_with fail
              go_quiet (fail)
              go_wp2_with fail
              go_meet
              exact ⟨p5, _, c5, _, _, rfl, by simp, HFS.out, HTE.out, HTS.out, HQ5.out.keeps (Keeps.drewN _ _ _), ⟨own_drewN HJ2.out.names _, own_drewN HJ2.out.told _⟩, HJ1.out.drewN _, HK5.out.calm ⟨Keeps.drewN _ _ _, Keeps.drewN _ _ _⟩, below_drewN HJB.out _⟩
        case rest =>
          obtain ⟨p', A', c', cs, nb, rfl, hcl, hfn, hmade, hts, hlain, hk2', i1', hkb, hB'⟩ := hcut
          have HFN := Lib.hid hfn
          have HMD := Lib.hid hmade
          have HTS := Lib.hid hts
          have HLC := Lib.hid hlain
          have HK2' := Lib.hid hk2'
          have HI1' := Lib.hid i1'
          have HKB := Lib.hid hkb
          have HB' := Lib.hid hB'
          clear hfn hmade hts hlain hk2' i1' hkb hB' HI1W HKW HBW HK2 a0 a1 a2 a3 a4 a5 a6 a7 a8 n1 g1 m1 HT HUn hub hut HF hnow HU2 s0
          go_wp2_with fail
          go_loopw [7, 8, 11] (fun nv tv kv wx => ∃ (k : Nat) (nt2 : List (ByteArray × Pr)), k ≤ cs.length ∧ kv = .int .i64 k ∧ nt2.length ≤ j * 121 + k ∧ Mid sb nb cs k nt2 ∧ Kept2 w.heap.size nv tv nt2 wx ∧ Lain 67 wx A' (flatC cs) ∧ Is wx w1.heap.size 27 #[.pointer p'] ∧ Booked wx p' nb ∧ Below w.heap.size w wx) (fun _ _ kv _ => cs.length - (intOf kv).toNat)
          case atStart => exact ⟨0, nt, Nat.zero_le _, rfl, by omega, Mid.start HND.out HLK.out, HK2'.out, HLC.out, HI1'.out, HKB.out, HB'.out⟩
          case round =>
            obtain ⟨k, nt2, hkl, rfl, hn2, hmid, hk3, hlc, i3, hkb3, hB3⟩ := hrel
            have HMID := Lib.hid hmid
            have HLC3 := Lib.hid hlc
            have HI3 := Lib.hid i3
            have HKB3 := Lib.hid hkb3
            have HB3 := Lib.hid hB3
            obtain ⟨AN3, cN3, rfl, _⟩ := own_shape hk3.names
            obtain ⟨AT3, cT3, rfl, _⟩ := own_shape hk3.told
            have HK3 := Lib.hid hk3
            clear hmid hlc i3 hkb3 hB3 hk3 HK2' HLC HI1' HKB HB'
            by_cases hkt : k < cs.length
            · have HME := Lib.hid (HTS.out.mem _ (List.getElem_mem hkt))
              have HNEW := Lib.hid (fun hn => HMID.out.new HTS.out hkt hn)
              have HAGN := Lib.hid (fun i (hi : i < nt2.length) hn => HMID.out.again HTS.out hkt hi hn)
              have HOLD := Lib.hid (HMID.out.old HTS.out hkt)
              obtain ⟨bx, ox, rfl, _, lx, x0, x1, x2, x3, x4, x5, x6⟩ := HLC3.out.seq.ch hkt
              generalize hck : cs[k] = ck at *
              obtain ⟨u, ⟨o0, o1, o2⟩, ⟨v0, v1, v2⟩⟩ := ck
              simp only at x0 x1 x2 x3 x4 x5 x6 HME HNEW HAGN HOLD
              have HCK := Lib.hid hck
              clear hck
              go_wp2_with fail
              go_loopw [12, 13] (fun av mv wy => ∃ (m : Nat) (z : Int), m ≤ nt2.length ∧ mv = .int .i64 m ∧ av = .int .i64 z ∧ ((∃ (i : Nat) (hi : i < nt2.length), i < m ∧ nt2[i].1 = u ∧ z = (i : Int)) ∨ (z = -1 ∧ ∀ (i : Nat) (hi : i < nt2.length), i < m → nt2[i].1 ≠ u)) ∧ Drawn wr wy) (fun _ mv _ => nt2.length - (intOf mv).toNat)
              case atStart => exact ⟨0, -1, Nat.zero_le _, rfl, rfl, .inr ⟨rfl, fun i _ h => by omega⟩, Drawn.refl _⟩
              case round =>
                obtain ⟨m, z, hm, rfl, rfl, hat, hd⟩ := hrel
                have HD := Lib.hid hd
                have HAT := Lib.hid hat
                have X0 := (hd.cell _).trans x0
                by_cases hmt : m < nt2.length
                · have _f := 0
                  clear _f
                  obtain ⟨bn, on, rfl, _, ln, y0⟩ := (hd.seq (Seq.own HK3.out.names)).at (i := m) (by simpa using hmt)
                  simp only [List.getElem_map] at y0
                  by_cases he : nt2[m].1 = u
                  · have HHE := Lib.hid he
                    rw [he] at y0
                    clear hat hd
                    go_wp2_with fail
                    go_quiet (fail)
                    go_wp2_with fail
                    go_roundw
                    case rel => exact ⟨m + 1, (m : Int), by omega, by go_num, rfl, .inl ⟨m, hmt, by omega, HHE.out, rfl⟩, HD.out.drewN _⟩
                    case measure => simp [intOf]; omega
                  · have d1 : (nt2[m].1.toList == u.toList) = false := by simpa using fun e => he (OmapB.ext e)
                    have HHE : Hid (∀ (i : Nat) (hi : i < nt2.length), i = m → nt2[i].1 ≠ u) := fun i hi e => by subst e; exact he
                    clear hat hd he
                    generalize nt2[m].1 = nm at *
                    go_wp2_with fail
                    go_quiet (fail)
                    go_wp2_with fail
                    go_roundw
                    case rel =>
                      refine ⟨m + 1, z, by omega, by go_num, rfl, ?_, HD.out.drewN _⟩
                      rcases HAT.out with ⟨i, hi, h1, h2, h3⟩ | ⟨h1, h2⟩
                      · exact .inl ⟨i, hi, by omega, h2, h3⟩
                      · refine .inr ⟨h1, fun i hi hl => ?_⟩
                        by_cases hlm : i < m
                        · exact h2 i hi hlm
                        · exact HHE.out i hi (by omega)
                    case measure => simp [intOf]; omega
                · have HK4 : Hid (Kept2 w.heap.size (.slice AN3 nt2.length cN3) (.slice AT3 nt2.length cT3) nt2 wr) := ⟨hd.own HK3.out.names, hd.own HK3.out.told⟩
                  have HLC4 := Lib.hid (HLC3.out.keeps hd.keeps)
                  have HI4 := Lib.hid ((hd.keeps (t := 27)).is HI3.out)
                  have HKB4 := Lib.hid (HKB3.out.calm ⟨hd.keeps, hd.keeps⟩)
                  have HB4 := Lib.hid (hd.below HB3.out)
                  have X1 := (hd.cell _).trans x1
                  have X2 := (hd.cell _).trans x2
                  have X3 := (hd.cell _).trans x3
                  have X4 := (hd.cell _).trans x4
                  have X5 := (hd.cell _).trans x5
                  have X6 := (hd.cell _).trans x6
                  have lx4 : bx < wr.heap.size := by rw [hd.size]; exact lx
                  clear hd hat HK3 HLC3 HI3 HKB3 HB3 x0 x1 x2 x3 x4 x5 x6 lx HD
                  go_upto_if 103 with (fail)
                  go_cut [7, 8, 12] (fun nv tv av wy => ∃ (i : Nat) (nt3 : List (ByteArray × Pr)), av = .int .i64 i ∧ nt3.length ≤ nt2.length + 1 ∧ nt3[i]? = some (u, (o0, o1, o2)) ∧ Mid sb nb cs (k + 1) (nt3.set i (u, (v0, v1, v2))) ∧ Kept2 w.heap.size nv tv nt3 wy ∧ Lain 67 wy (some ⟨bx, ox, none⟩) (flatC cs) ∧ Is wy w1.heap.size 27 #[.pointer p'] ∧ Booked wy p' nb ∧ Below w.heap.size w wy)
                  case first =>
                    rcases HAT.out with ⟨i, hi, _, h2, rfl⟩ | ⟨rfl, h2⟩
                    · have h3 := HAGN.out i hi h2
                      have HFI : Hid (nt2[i]? = some (u, (o0, o1, o2)) ∧ Mid sb nb cs (k + 1) (nt2.set i (u, (v0, v1, v2)))) := by
                        refine ⟨?_, by rw [← h2]; exact h3.2⟩
                        rw [List.getElem?_eq_getElem hi]
                        congr 1
                        exact Prod.ext h2 h3.1
                      clear h3 h2
                      have d3 : decide ((i : Int) < 0) = false := by simp
                      go_wp2_with fail
                      go_meet
                      exact ⟨i, nt2, rfl, by omega, HFI.out.1, HFI.out.2, HK4.out, HLC4.out, HI4.out, HKB4.out, HB4.out⟩
                    · have hnot : u ∉ nt2.map (·.1) := fun hm' => by
                        obtain ⟨i, hi, e⟩ := List.mem_iff_getElem.1 hm'
                        simp at hi e
                        exact h2 i hi (by omega) e
                      have hz : (o0, o1, o2) = ((0, 0, 0) : Pr) := by
                        have := HOLD.out
                        unfold lookT at this
                        rw [getK_notin hnot] at this
                        exact this.symm
                      have HFI : Hid ((nt2 ++ [(u, ((0, 0, 0) : Pr))])[nt2.length]? = some (u, (o0, o1, o2)) ∧ Mid sb nb cs (k + 1) ((nt2 ++ [(u, ((0, 0, 0) : Pr))]).set nt2.length (u, (v0, v1, v2)))) := by
                        refine ⟨by rw [hz]; simp, ?_⟩
                        have := HNEW.out hnot
                        simpa using this
                      clear hnot hz h2
                      obtain ⟨i0, hEN⟩ := elemN
                      have HEN := Lib.hid hEN
                      obtain ⟨i00, hEP⟩ := elemP
                      have HEP := Lib.hid hEP
                      clear hEN hEP
                      have hbz := HB4.out.size
                      have bt := (Below.refl wr.heap.size wr).alloc (Nat.le_refl _) (.cells #[.string u] 9)
                      have HT1 := Lib.hid (Lain.is (Is.new wr 9 #[.string u] rfl) rfl : Lain 9 (wr.alloc (.cells #[.string u] 9)) (some ⟨wr.heap.size, 0, none⟩) [.string u])
                      have HN1 := Lib.hid (own_below HK4.out.names bt)
                      have HP1 := Lib.hid (own_below HK4.out.told bt)
                      have HL1 := Lib.hid (HLC4.out.now bt)
                      have HI5 := Lib.hid (HI4.out.below bt HI4.out.lt)
                      have HB5 := Lib.hid (HKB4.out.now bt)
                      have HW5 := Lib.hid (HB4.out.trans (bt.mono HB4.out.size))
                      clear bt
                      go_wp2_with (first
                        | (at_builtin; refine Law.wpList_append_seq _ w.heap.size 31 rfl _ _ rfl HEN.out _ _ _ rfl HN1.out 0 _ (some ⟨wr.heap.size, 0, none⟩) 1 1 [.string u] rfl rfl HT1.out.seq (by intro x hx; simp at hx; subst hx; rfl) (by unfold maxLen; omega) (by omega) (by simp only [World.size_alloc]; omega) ?_; intro v7 w7 hown7 hgrow7; obtain ⟨A7, d7, rfl, _⟩ := own_shape hown7; have HN7 := Lib.hid hown7; have HP7 := Lib.hid (HP1.out.kept hgrow7 (own_own_ne HN1.out HP1.out (by decide))); have HL7 := Lib.hid (HL1.out.keeps (Keeps.grown HN1.out hgrow7 (by decide))); have HI7 := Lib.hid (HI5.out.grown hgrow7 (own_ne HN1.out HI5.out (by decide))); have HB7 := Lib.hid (HB5.out.calm (Calm.grown HN1.out hgrow7 (by decide) (by decide))); have HW7 := Lib.hid (HW5.out.grown hgrow7 (by simp only [World.size_alloc]; omega) (fun g hg => (HN1.out.lt g hg).1)); have sz7 := HW7.out.size; have bt2 := (Below.refl w7.heap.size w7).alloc (Nat.le_refl _) (.cells #[.int .i64 0, .int .i64 0, .int .i64 0] 53); have HT2 := Lib.hid (Lain.is (Is.new w7 53 #[.int .i64 0, .int .i64 0, .int .i64 0] rfl) rfl : Lain 53 (w7.alloc (.cells #[.int .i64 0, .int .i64 0, .int .i64 0] 53)) (some ⟨w7.heap.size, 0, none⟩) (cellsP (0, 0, 0))); have HN8 := Lib.hid (own_below HN7.out bt2); have HP8 := Lib.hid (own_below HP7.out bt2); have HL8 := Lib.hid (HL7.out.now bt2); have HI8 := Lib.hid (HI7.out.below bt2 HI7.out.lt); have HB8 := Lib.hid (HB7.out.now bt2); have HW8 := Lib.hid (HW7.out.trans (bt2.mono HW7.out.size)); clear bt2 hown7 hgrow7)
                        | (at_builtin; refine Law.wpList_append_seq _ w.heap.size 65 rfl _ _ rfl HEP.out _ _ _ rfl HP8.out 0 _ (some ⟨w7.heap.size, 0, none⟩) 1 1 (cellsP (0, 0, 0)) rfl rfl HT2.out.seq (by intro x hx; simp [cellsP] at hx; rcases hx with rfl | rfl | rfl <;> rfl) (by unfold maxLen; omega) (by omega) (by simp only [World.size_alloc]; omega) ?_; intro v9 w9 hown9 hgrow9; obtain ⟨A9, d9, rfl, _⟩ := own_shape hown9; have HP9 := Lib.hid hown9; have HN9 := Lib.hid (HN8.out.kept hgrow9 (own_own_ne HP8.out HN8.out (by decide))); have HL9 := Lib.hid (HL8.out.keeps (Keeps.grown HP8.out hgrow9 (by decide))); have HI9 := Lib.hid (HI8.out.grown hgrow9 (own_ne HP8.out HI8.out (by decide))); have HB9 := Lib.hid (HB8.out.calm (Calm.grown HP8.out hgrow9 (by decide) (by decide))); have HW9 := Lib.hid (HW8.out.grown hgrow9 (by simp only [World.size_alloc]; omega) (fun g hg => (HP8.out.lt g hg).1)); clear hown9 hgrow9))
                      go_meet
                      refine ⟨nt2.length, nt2 ++ [(u, ((0, 0, 0) : Pr))], by simp, by simp, HFI.out.1, HFI.out.2, ⟨?_, ?_⟩, HL9.out, HI9.out, HB9.out, HW9.out⟩
                      · simpa using HN9.out
                      · have := HP9.out
                        rw [List.map_append, flatP_app]
                        simpa [flatP] using this
                  case rest =>
                    obtain ⟨i, nt3, rfl, hn3, hgi, hmid, hk5, hlc5, i5, hkb5, hB5⟩ := hcut
                    obtain ⟨hi, hge⟩ := List.getElem?_eq_some_iff.1 hgi
                    have hge' := hge
                    have HMI := Lib.hid hmid
                    obtain ⟨AN5, cN5, rfl, _⟩ := own_shape hk5.names
                    obtain ⟨g, cap, rfl, hbg, hgl⟩ := hk5.told.form (by omega)
                    have isg : ∃ cur, Is wc g 53 cur := by
                      rcases hk5.told.2 with ⟨h1, _⟩ | ⟨g', cap', cur, h1, _, h2, _⟩
                      · cases h1
                      · injection h1 with h1
                        injection h1 with h1
                        injection h1 with h1
                        subst h1
                        exact ⟨cur, h2⟩
                    obtain ⟨cur, hcur⟩ := isg
                    have hrow := Seq.row (cells := cellsP) (fun _ => rfl) (by decide : 0 < 3) (l := nt3.map (·.2)) (i := i) (Seq.own hk5.told) (by simpa using hi)
                    obtain ⟨bg, og, hag, _, _, hcg⟩ := hrow
                    injection hag with hag
                    injection hag with hag1 hag2
                    subst hag1 hag2
                    have p0 : wc.cell? ⟨g, 0 + i * 3, none⟩ = some (.int .i64 o0) := hcg 0 _ (by simp [hge, cellsP])
                    have p1 : wc.cell? ⟨g, 0 + i * 3 + 1, none⟩ = some (.int .i64 o1) := hcg 1 _ (by simp [hge, cellsP])
                    have p2 : wc.cell? ⟨g, 0 + i * 3 + 2, none⟩ = some (.int .i64 o2) := hcg 2 _ (by simp [hge, cellsP])
                    rw [Nat.zero_add] at p0 p1 p2
                    obtain ⟨bx', ox', hax, _, lx5, x0, x1, x2, x3, x4, x5, x6⟩ := hlc5.seq.ch hkt
                    injection hax with hax
                    injection hax with hax1 hax2
                    subst hax1 hax2
                    rw [HCK.out] at x0 x1 x2 x3 x4 x5 x6
                    simp only at x0 x1 x2 x3 x4 x5 x6
                    have HK5 := Lib.hid hk5
                    have HLC5 := Lib.hid hlc5
                    have HI5' := Lib.hid i5
                    have HKB5 := Lib.hid hkb5
                    have HB5' := Lib.hid hB5
                    have HCUR := Lib.hid hcur
                    clear hk5 hlc5 i5 hkb5 hB5 hcur hmid hgi hge hcg HK4 HLC4 HI4 HKB4 HB4 X0 X1 X2 X3 X4 X5 X6 lx4 HNEW HAGN HOLD HAT
                    have HGI : Hid (nt3[i]? = some (u, (o0, o1, o2))) := List.getElem?_eq_some_iff.2 ⟨hi, hge'⟩
                    have hses := HFN.out.of u
                    go_upto_region 29 with (fail)
                    go_cut [157] (fun v wx => v = .bool false ∧ Below wc.heap.size wc wx)
                    case first =>
                      have HCP : Hid (∀ d os, Calls Try.prog 21 #[.agg #[.pointer p'], .string u, .int .u64 now] (grow (redrawn wc d) os) fun e w' => e = .returned (.agg #[.int .i64 v0, .int .i64 v1, .int .i64 v2]) ∧ Below (grow (redrawn wc d) os).heap.size (grow (redrawn wc d) os) w') := fun d os =>
                        presence u now HME.out.2.2.1.symm (HKB5.out.now (below_regrown wc d os)) HFN.out.book.1 (by omega)
                      have rb := cell_regrown (HI5'.out.cell' (i := 0) rfl)
                      have r0 := cell_regrown x0
                      have r1 := cell_regrown x1
                      have r2 := cell_regrown x2
                      have r3 := cell_regrown x3
                      have r4 := cell_regrown x4
                      have r5 := cell_regrown x5
                      have r6 := cell_regrown x6
                      have t0 := cell_regrown p0
                      have t1 := cell_regrown p1
                      have t2 := cell_regrown p2
                      have hne := HME.out.2.2.2
                      clear x0 x1 x2 x3 x4 x5 x6 p0 p1 p2
                      by_cases h0 : o0 = v0
                      · by_cases h1 : o1 = v1
                        · by_cases h2 : o2 = v2
                          · exact absurd (by rw [h0, h1, h2]) hne
                          · have e0 : (o0 == v0) = true := by simpa using h0
                            have e1 : (o1 == v1) = true := by simpa using h1
                            have e2 : (o2 == v2) = false := by simpa using h2
                            clear hne h0 h1 h2
                            refine wp_region_quiet_below (by kernel_rfl) (by kernel_rfl) ?_
                            repeat (go_big_quiet_step (first
                              | (go_at_call 21; with_reducible exact Calls.regrown_of (HCP.out _ _))))
                            refine wpQuiet_nil ?_
                            intro _ hw'
                            obtain ⟨⟨nq, osq⟩, hw''⟩ := hw'
                            subst hw''
                            go_wp2_with fail
                            go_meet
                            exact ⟨rfl, below_regrown wc nq osq⟩
                        · have e0 : (o0 == v0) = true := by simpa using h0
                          have e1 : (o1 == v1) = false := by simpa using h1
                          clear hne h0 h1
                          refine wp_region_quiet_below (by kernel_rfl) (by kernel_rfl) ?_
                          repeat (go_big_quiet_step (first
                            | (go_at_call 21; with_reducible exact Calls.regrown_of (HCP.out _ _))))
                          refine wpQuiet_nil ?_
                          intro _ hw'
                          obtain ⟨⟨nq, osq⟩, hw''⟩ := hw'
                          subst hw''
                          go_wp2_with fail
                          go_meet
                          exact ⟨rfl, below_regrown wc nq osq⟩
                      · have e0 : (o0 == v0) = false := by simpa using h0
                        clear hne h0
                        refine wp_region_quiet_below (by kernel_rfl) (by kernel_rfl) ?_
                        repeat (go_big_quiet_step (first
                          | (go_at_call 21; with_reducible exact Calls.regrown_of (HCP.out _ _))))
                        refine wpQuiet_nil ?_
                        intro _ hw'
                        obtain ⟨⟨nq, osq⟩, hw''⟩ := hw'
                        subst hw''
                        go_wp2_with fail
                        go_meet
                        exact ⟨rfl, below_regrown wc nq osq⟩
                    case rest =>
                      obtain ⟨rfl, b1⟩ := hcut
                      replace HK5 : Hid (Kept2 w.heap.size (.slice AN5 nt3.length cN5) (.slice (some ⟨g, 0, none⟩) nt3.length cap) nt3 wc) := ⟨own_below HK5.out.names b1, own_below HK5.out.told b1⟩
                      replace HI5' := Lib.hid (HI5'.out.below b1 HI5'.out.lt)
                      replace HCUR := Lib.hid (HCUR.out.below b1 HCUR.out.lt)
                      replace HB5' := Lib.hid (HB5'.out.trans (b1.mono HB5'.out.size))
                      replace HLC5 := Lib.hid (HLC5.out.now b1)
                      replace HKB5 := Lib.hid (HKB5.out.now b1)
                      have lx5' := Nat.lt_of_lt_of_le lx5 b1.size
                      have X0 := (b1.cell (p := ⟨bx, ox + k * 7 + 4, none⟩) lx5).trans x4
                      have X1 := (b1.cell (p := ⟨bx, ox + k * 7 + 5, none⟩) lx5).trans x5
                      have X2 := (b1.cell (p := ⟨bx, ox + k * 7 + 6, none⟩) lx5).trans x6
                      have Y0 := (b1.cell (p := ⟨g, i * 3, none⟩) hgl).trans p0
                      have Y1 := (b1.cell (p := ⟨g, i * 3 + 1, none⟩) hgl).trans p1
                      have Y2 := (b1.cell (p := ⟨g, i * 3 + 2, none⟩) hgl).trans p2
                      have F0 := HCUR.out.frozen (i * 3)
                      have F1 := HCUR.out.frozen (i * 3 + 1)
                      have F2 := HCUR.out.frozen (i * 3 + 2)
                      have LG := HCUR.out.lt
                      clear b1 x0 x1 x2 x3 x4 x5 x6 p0 p1 p2 lx5 hgl
                      have ho1 := own_set HK5.out.told (i := i * 3) (.int .i64 v0)
                      have ho2 := own_set ho1 (i := i * 3 + 1) (.int .i64 v1)
                      have ho3 := own_set ho2 (i := i * 3 + 2) (.int .i64 v2)
                      have hfs := flatP_set (nt3.map (·.2)) i (v0, v1, v2) (by simpa using hi)
                      simp only at hfs
                      rw [hfs] at ho3
                      have HKZ : Hid (Kept2 w.heap.size (.slice AN5 nt3.length cN5) (.slice (some ⟨g, 0, none⟩) nt3.length cap) (nt3.set i (u, (v0, v1, v2))) (((wc.setCell ⟨g, i * 3, none⟩ (.int .i64 v0)).setCell ⟨g, i * 3 + 1, none⟩ (.int .i64 v1)).setCell ⟨g, i * 3 + 2, none⟩ (.int .i64 v2))) := by
                        refine ⟨?_, ?_⟩
                        · rw [set_names HGI.out, List.length_set]; exact own_keeps HK5.out.names (Keeps.store3 HCUR.out (by decide) _ _ _)
                        · rw [List.map_set, List.length_set]; exact ho3
                      have HLZ := Lib.hid (HLC5.out.keeps (Keeps.store3 (i1 := i * 3) (i2 := i * 3 + 1) (i3 := i * 3 + 2) HCUR.out (by decide) (.int .i64 v0) (.int .i64 v1) (.int .i64 v2)))
                      have HIZ := Lib.hid ((Keeps.store3 (t := 27) (i1 := i * 3) (i2 := i * 3 + 1) (i3 := i * 3 + 2) HCUR.out (by decide) (.int .i64 v0) (.int .i64 v1) (.int .i64 v2)).is HI5'.out)
                      have HBZ := Lib.hid (HKB5.out.calm ⟨Keeps.store3 (i1 := i * 3) (i2 := i * 3 + 1) (i3 := i * 3 + 2) HCUR.out (by decide) (.int .i64 v0) (.int .i64 v1) (.int .i64 v2), Keeps.store3 (i1 := i * 3) (i2 := i * 3 + 1) (i3 := i * 3 + 2) HCUR.out (by decide) (.int .i64 v0) (.int .i64 v1) (.int .i64 v2)⟩)
                      have HWZ := Lib.hid (((HB5'.out.setCell (p := ⟨g, i * 3, none⟩) hbg (.int .i64 v0)).setCell (p := ⟨g, i * 3 + 1, none⟩) hbg (.int .i64 v1)).setCell (p := ⟨g, i * 3 + 2, none⟩) hbg (.int .i64 v2))
                      clear ho1 ho2 ho3 hfs HK5 HLC5 HI5' HKB5 HB5' HCUR
                      go_wp2_with fail
                      go_roundw
                      case rel => exact ⟨k + 1, nt3.set i (u, (v0, v1, v2)), by omega, by go_num, by rw [List.length_set]; omega, HMI.out, HKZ.out, HLZ.out, HIZ.out, HBZ.out, HWZ.out⟩
                      case measure => simp [intOf]; omega
            · have HFIN := Lib.hid ((show k = cs.length by omega) ▸ HMID.out : Mid sb nb cs cs.length nt2)
              have HF2 := Lib.hid (HFIN.out.fin HTS.out)
              go_wp2_with fail
              go_roundw
              case rel => exact ⟨j + 1, p', nt2, by omega, by go_num, by rw [HMD.out], by omega, HF2.out.1, by rw [HMD.out]; exact HF2.out.2, HK3.out, HI3.out, by rw [HMD.out]; exact HKB3.out, HB3.out⟩
              case measure => simp [intOf]; omega
      · have HBF := HBW
        clear HK2 HKW HI1W HF
        go_wp2_with fail
        go_ret
        exact ⟨rfl, HBF.out⟩

set_option maxRecDepth 100000 in
theorem lifted (os : Os) (started : os.Started) (H : Type) (enc : TypeId × Value → H) :
    ReturnsInHanded {} Try.checked os 5 .any (Rows.bookTellsSpec.pre6 enc Try.prog Try.f5 Rows.bookTellsRow.domain false) (Rows.bookTellsSpec.post enc Try.prog Try.f5 false true false false) := by
  refine returnsInHanded_of_change (C := Try.checked) own started (by kernel_rfl) Try.func5
    (ChangeSpec.witness6 (enc := enc) (C := Try.checked) false ⟨#[], #[.slice none 0 0, .int .i64 0], []⟩ 8 (by kernel_rfl) (by kernel_rfl) (by kernel_rfl) (by kernel_rfl)) ?_
  intro W base args ds gs before hval0 hW hcnd _
  have hval : ∀ (j : Nat) t v, Try.f5.params[j]? = some t → args[j]? = some v → Value.okWide Try.prog W .any base t v := hval0
  have hW' := hW
  obtain ⟨p, q, hA0, hV, rfl, hfz, hnd⟩ := hW
  have hA : DataW.TrodAll enc Try.prog W 0 (fun _ => true) true Try.f5.params.toList args.toList ds p := hA0
  rw [Try.params5] at hA hval
  obtain ⟨v0, vs0, d0, ds0, p0, q0, hargs, rfl, rfl, h0, r0⟩ := trodAll_cons hA
  obtain ⟨v1, vs1, d1, ds1, p1, q1, rfl, rfl, rfl, h1, r1⟩ := trodAll_cons r0
  obtain ⟨rfl, rfl, rfl⟩ := trodAll_nil r1
  obtain rfl : args = #[v0, v1] := by cases args; simp_all
  obtain ⟨A, c, l, rfl, hs, hl, hq⟩ := open_acts (hval 0 22 v0 rfl rfl) h0
  obtain ⟨a1, rfl, rfl, rfl, w1⟩ := open_int Try.underlying3 (hval 1 3 v1 rfl rfl) h1
  refine (walk l A c a1 W hs hl hq).mono fun e W' ⟨he, bel⟩ => ?_
  subst he
  exact ⟨_, rfl, Law.post_law laidOut (by kernel_rfl) (by kernel_rfl) Try.underlying4 rfl (fun ds h => by match ds, h with | [_, _], _ => rfl) hW' bel⟩

theorem proved : Rows.BookTellsSaid :=
  OpenClaim.holds_of_wide 5 Try.f5 rfl rfl rfl rfl rfl rfl rfl ⟨rfl, rfl, rfl, rfl, rfl⟩ rfl rfl rfl rfl rfl (by kernel_rfl) Try.func5 (by kernel_rfl)
    (of_decide_eq_true (by kernel_rfl)) (by unfold Func.isWrapper; rw [if_neg (by decide +kernel)]; exact ⟨rfl, rfl⟩)
    (fun os started H enc _ => lifted os started H enc)
#print axioms proved
end Go.Proofs.Ytjjemdmbhgmiiaa.bookTells
