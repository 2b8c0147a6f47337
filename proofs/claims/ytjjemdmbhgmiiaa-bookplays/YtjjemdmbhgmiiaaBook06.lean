/-
  What layer 8's statements' helpers come to: later, long, made; the document's example.
-/
import Derived.Test.YtjjemdmbhgmiiaaBook04
import Derived.Test.YtjjemdmbhgmiiaaOpenOps
import Derived.StillTailTactics
namespace Go.Proofs.Ytjjemdmbhgmiiaa
open Go.RowKit
namespace Bk
open Go.Law Go.Proofs.Ytjjemdmbhgmiiaa.OmapB Door
/-- a book behind so many acts: as it may be, and small -/
structure Fit (n : Nat) (b : List (ByteArray × En)) : Prop where
  book : Book lt b
  len : b.length ≤ n
  ses : ∀ q ∈ b, q.2.1.length ≤ n
theorem Fit.nil (n : Nat) : Fit n [] := ⟨Book.nil lt, Nat.zero_le _, fun _ h => by cases h⟩
theorem Fit.more {n m : Nat} {b : List (ByteArray × En)} (h : Fit n b) (hm : n ≤ m) : Fit m b := ⟨h.book, Nat.le_trans h.len hm, fun q hq => Nat.le_trans (h.ses q hq) hm⟩
theorem Fit.of {n : Nat} {b : List (ByteArray × En)} (h : Fit n b) (u : ByteArray) : (sesK u b).length ≤ n := Room.ses (n := n) (fun q hq => h.ses q hq) u
theorem wrS_up {q : OpV} {now most : Int} {b : List (ByteArray × En)} (h : Book lt b) : Up (wrS q now most b) := wrote_up (live_up now (h.ses lt q.user))
theorem wrS_le {n : Nat} {q : OpV} {now most : Int} {b : List (ByteArray × En)} (h : Fit n b) : (wrS q now most b).length ≤ n + 1 := by
  have h1 := wrote_le q.kind q.id q.st q.pr (sat now q.ttl) most (live now (sesK q.user b))
  have h2 := live_length now (sesK q.user b)
  have h3 := h.of q.user
  unfold wrS
  omega
theorem Fit.write {n : Nat} {q : OpV} {now most : Int} {b : List (ByteArray × En)} (h : Fit n b) : Fit (n + 1) (wrB q now most b) :=
  ⟨h.book.become lt tri (wrS_up h.book), Nat.le_trans (become_len lt _ _ _ _) (by have := h.len; omega), Room.become lt (n := n + 1) (fun p hp => Nat.le_succ_of_le (h.ses p hp)) (wrS_le h)⟩
theorem Fit.sweep {n : Nat} {now : Int} {b : List (ByteArray × En)} (h : Fit n b) : Fit n (sweepB now b) :=
  ⟨h.book.sweep lt, Nat.le_trans (List.length_filterMap_le _ _) h.len, Room.sweep (n := n) (fun p hp => h.ses p hp)⟩
/-- a book and the time behind an act -/
def actB (most : Int) (st : List (ByteArray × En) × Int) (q : ActV) : List (ByteArray × En) × Int :=
  if q.sweep then (sweepB (sat st.2 q.by_) st.1, sat st.2 q.by_) else (wrB q.op (sat st.2 q.by_) most st.1, sat st.2 q.by_)
def madeB (most : Int) (l : List ActV) : List (ByteArray × En) × Int := l.foldl (actB most) ([], 0)
theorem madeB_snoc (most : Int) (l : List ActV) (q : ActV) : madeB most (l ++ [q]) = actB most (madeB most l) q := by simp [madeB]
theorem act_fit {n : Nat} {most : Int} {st : List (ByteArray × En) × Int} {q : ActV} (h : Fit n st.1) : Fit (n + 1) (actB most st q).1 := by
  unfold actB
  split
  · exact h.sweep.more (by omega)
  · exact h.write
theorem act_U {most : Int} {st : List (ByteArray × En) × Int} {q : ActV} (h : U st.2) (hq : q.Good) : U (actB most st q).2 := by
  unfold actB
  have := sat_U h (ofwf hq.by_)
  split <;> exact this
theorem made_fit (most : Int) (l : List ActV) (hq : ∀ q ∈ l, q.Good) : Fit l.length (madeB most l).1 ∧ U (madeB most l).2 := by
  induction l using snocInd with
  | nil => exact ⟨Fit.nil _, U0⟩
  | snoc l q ih =>
    have ih := ih fun p hp => hq p (by simp [hp])
    rw [madeB_snoc]
    exact ⟨(act_fit ih.1).more (by simp), act_U ih.2 (hq q (by simp))⟩
abbrev flatA (l : List ActV) : List Value := l.flatMap cellsA
theorem _root_.Go.Law.Seq.act {w : World} {lo B : Nat} {A : Option Addr} {l : List ActV} {i : Nat} (h : Seq w lo B A (flatA l)) (hi : i < l.length) : ∃ b off, A = some ⟨b, off, none⟩ ∧ b < B ∧ ∀ j u, (cellsA l[i])[j]? = some u → w.cell? ⟨b, off + i * 9 + j, none⟩ = some u := by
  obtain ⟨b, off, hA, _, h2, hc⟩ := Seq.row (cells := cellsA) (fun _ => rfl) (by decide : 0 < 9) h hi
  exact ⟨b, off, hA, h2, hc⟩

set_option maxHeartbeats 400000 in
theorem later (a b : Int) (ha : U a) (hb : U b) (w : World) :
    Calls Try.prog 11 #[.int .u64 a, .int .u64 b] w fun e w' => e = .returned (.int .u64 (sat a b)) ∧ w = w' := by
  go_enter Try.func11, Try.ntmps11
  go_wp2
  all_goals go_ret
  · exact ⟨Tick.ret_u64 ((Tick.wrap_left a b ha hb).1 (by assumption)).symm, rfl⟩
  · exact ⟨Tick.ret_u64 ((Tick.wrap_left a b ha hb).2 (by assumption)), rfl⟩
/-- is there more than is looked at? -/
def longB (l : List ActV) : Bool := decide (120 < l.length) || l.any fun q => decide (100 < q.op.user.size)

set_option maxRecDepth 100000 in
set_option maxHeartbeats 1600000 in
theorem long_ (l : List ActV) (A : Option Addr) (c : Nat) (w : World) (hs : Seq w 0 w.heap.size A (flatA l)) (hl : l.length ≤ maxLen) (hq : ∀ q ∈ l, q.Good) :
    Calls Try.prog 10 #[.slice A l.length c] w fun e w' => e = .returned (.bool (longB l)) ∧ w = w' := by
  have HS := Lib.hid hs
  have HQ := Lib.hid hq
  clear hs hq
  unfold maxLen at hl
  by_cases h0 : 120 < l.length
  · have d0 : decide ((120 : Int) < (l.length : Int)) = true := by simp; omega
    have HE : Hid (longB l = true) := by show _ = _; unfold longB; simp [h0]
    go_enter Try.func10, Try.ntmps10
    go_wp2_with fail
    go_ret
    exact ⟨by rw [HE.out]; rfl, rfl⟩
  · have d0 : decide ((120 : Int) < (l.length : Int)) = false := by simp; omega
    have HE : Hid (longB l = l.any fun q => decide (100 < q.op.user.size)) := by show _ = _; unfold longB; simp [h0]
    go_enter Try.func10, Try.ntmps10
    go_wp2_with fail
    go_loop [3] (fun i => ∃ j : Nat, j ≤ l.length ∧ i = .int .i64 j ∧ (l.take j).any (fun q => decide (100 < q.op.user.size)) = false) (fun i => l.length - (intOf i).toNat)
    case atStart => exact ⟨0, Nat.zero_le _, rfl, by simp⟩
    case round =>
      obtain ⟨j, hj, rfl, ha⟩ := hrel
      have HA := Lib.hid ha
      clear ha
      by_cases hlt : j < l.length
      · obtain ⟨b, off, rfl, hb, cs⟩ := HS.out.act hlt
        have HT : Hid ((l.take (j + 1)).any (fun q => decide (100 < q.op.user.size)) = ((l.take j).any (fun q => decide (100 < q.op.user.size)) || decide (100 < l[j].op.user.size))) := by show _ = _; rw [List.take_succ_eq_append_getElem hlt, List.any_append]; simp only [List.any_cons, List.any_nil, Bool.or_false]
        have c2 := cs 2 _ rfl
        have HM := Lib.hid (List.getElem_mem hlt)
        have hus := ((HQ.out _ HM.out).op).user
        unfold maxLen at hus
        generalize l[j] = q at *
        by_cases hu : 100 < q.op.user.size
        · have d1 : decide ((100 : Int) < (q.op.user.size : Int)) = true := by simp; omega
          have HE2 : Hid (longB l = true) := by show _ = _; rw [HE.out, List.any_eq_true]; exact ⟨q, HM.out, by simpa using hu⟩
          go_wp2_with fail
          go_ret
          exact ⟨by rw [HE2.out]; rfl, rfl⟩
        · have d1 : decide ((100 : Int) < (q.op.user.size : Int)) = false := by simp; omega
          go_wp2_with fail
          go_round
          case rel => exact ⟨j + 1, by omega, by go_num, by rw [HT.out, HA.out]; simpa using hu⟩
          case measure => simp [intOf]; omega
      · have e1 : l.take j = l := List.take_of_length_le (by omega)
        have HE2 : Hid (longB l = false) := by show _ = _; rw [HE.out, ← HA.out, e1]
        go_wp2_with fail
        go_ret
        exact ⟨by rw [HE2.out]; rfl, rfl⟩

set_option maxRecDepth 100000 in
set_option maxHeartbeats 4000000 in
theorem made_ (l : List ActV) (A : Option Addr) (c : Nat) (most : Int) (w : World) (hs : Seq w 0 w.heap.size A (flatA l)) (hl : l.length ≤ 120) (hq : ∀ q ∈ l, q.Good) :
    Calls Try.prog 23 #[.slice A l.length c, .int .i64 most] w fun e w' => ∃ p, e = .returned (.tuple #[M p, .int .u64 (madeB most l).2]) ∧ Booked w' p (madeB most l).1 ∧ Below w.heap.size w w' := by
  have HS := Lib.hid hs
  have HQ := Lib.hid hq
  have HB := Lib.hid (Below.refl w.heap.size w)
  clear hs hq
  go_enter Try.func23, Try.ntmps23
  go_wp2_with fail
  have bx := (((Below.refl w.heap.size w).alloc (Nat.le_refl _) (.cells #[.pointer none] 27)).alloc (by simp only [World.size_alloc]; omega) (.cells #[.pointer none] 27))
  have HI0 := Lib.hid ((Is.new w 27 #[.pointer none] rfl).alloc (.cells #[.pointer none] 27))
  have HI1 := Lib.hid (Is.new (w.alloc (.cells #[.pointer none] 27)) 27 #[.pointer none] (g := w.heap.size + 1) (by simp only [World.size_alloc]))
  replace HB := Lib.hid (HB.out.trans (bx.mono HB.out.size))
  generalize ((w.alloc (.cells #[.pointer none] 27)).alloc (.cells #[.pointer none] 27)) = w0 at *
  clear bx
  go_loopw [7, 8] (fun nv iv wr => ∃ (j : Nat) (p : Option Addr), j ≤ l.length ∧ iv = .int .i64 j ∧ nv = .int .u64 (madeB most (l.take j)).2 ∧ Is wr w.heap.size 27 #[.pointer none] ∧ Is wr (w.heap.size + 1) 27 #[.pointer p] ∧ Booked wr p (madeB most (l.take j)).1 ∧ Below w.heap.size w wr) (fun _ iv _ => l.length - (intOf iv).toNat)
  case atStart => exact ⟨0, none, Nat.zero_le _, rfl, rfl, HI0.out, HI1.out, Booked.nil _, HB.out⟩
  case round =>
    obtain ⟨j, p, hj, rfl, rfl, i0, i1, hk, hB⟩ := hrel
    have hmf := made_fit most (l.take j) (fun q hq => HQ.out q (List.mem_of_mem_take hq))
    have hjl : (l.take j).length ≤ 120 := by simp; omega
    have HF := Lib.hid (hmf.1.more hjl)
    have HUn := Lib.hid hmf.2
    have HI0W := Lib.hid i0
    have HI1W := Lib.hid i1
    have HKW := Lib.hid hk
    have HBW := Lib.hid hB
    have s0 := hB.size
    clear i0 i1 hk hB hmf hjl HI0 HI1 HB
    by_cases hlt : j < l.length
    · obtain ⟨b, off, rfl, hb, cs⟩ := (HS.out.below HBW.out).act hlt
      have HT : Hid (madeB most (l.take (j + 1)) = actB most (madeB most (l.take j)) l[j]) := by show _ = _; rw [List.take_succ_eq_append_getElem hlt, madeB_snoc]
      have hgd := HQ.out _ (List.getElem_mem hlt)
      have lb : b < wr.heap.size := by omega
      generalize madeB most (l.take j) = st at *
      obtain ⟨sb, sn⟩ := st
      generalize l[j] = q at *
      obtain ⟨qs, ⟨kind, user, id, st', pr, ttl, users⟩, qb⟩ := q
      have hub := Lib.hid (ofwf hgd.by_)
      have hut := Lib.hid (ofwf hgd.op.ttl)
      simp only at hub hut HF HUn HKW
      have a0 : wr.cell? ⟨b, off + j * 9, none⟩ = some (.bool qs) := cs 0 _ rfl
      have a1 := cs 1 _ rfl
      have a2 := cs 2 _ rfl
      have a3 := cs 3 _ rfl
      have a4 := cs 4 _ rfl
      have a5 := cs 5 _ rfl
      have a6 := cs 6 _ rfl
      have a7 := cs 7 _ rfl
      have a8 := cs 8 _ rfl
      simp only at a1 a2 a3 a4 a5 a6 a7 a8
      have n1 := HI1W.out.cell' (i := 0) rfl
      have g1 := HI1W.out.frozen 0
      have m1 := HI1W.out.lt
      clear cs hgd
      go_wp2_with fail
      refine (later sn qb HUn.out hub.out _).mono ?_
      rintro e w' ⟨rfl, rfl⟩
      have HU2 := Lib.hid (sat_U HUn.out hub.out)
      cases qs with
      | true =>
        have HTE : Hid (madeB most (l.take (j + 1)) = (sweepB (sat sn qb) sb, sat sn qb)) := HT.out
        clear HT a1 a2 a3 a4 a5 a6 a7 a8
        generalize sat sn qb = now at *
        go_wp2_with fail
        refine (sweep now HKW.out HF.out.book.1 (by have := HF.out.len; omega) (fun q hq => by have := HF.out.ses q hq; omega)).mono ?_
        rintro e w5 ⟨p5, A5, c5, rfl, k5, q5, b1⟩
        replace HI0W := Lib.hid (HI0W.out.below b1 HI0W.out.lt)
        replace HI1W := Lib.hid (HI1W.out.below b1 HI1W.out.lt)
        replace HBW := Lib.hid (HBW.out.trans (b1.mono HBW.out.size))
        have HK5 := Lib.hid (k5.store (i := 0) HI1W.out (by decide) (by decide) (.pointer p5))
        have HJ1 := Lib.hid (HI1W.out.set 0 (.pointer p5) rfl)
        have HJ0 := Lib.hid (HI0W.out.far (p := ⟨w.heap.size + 1, 0, none⟩) (by simp) (.pointer p5))
        have HJB := Lib.hid (HBW.out.setCell (p := ⟨w.heap.size + 1, 0, none⟩) (by simp) (.pointer p5))
        have z1 := HI1W.out.cell' (i := 0) rfl
        have z2 := HI1W.out.frozen 0
        have z3 := HI1W.out.lt
        clear k5 q5 b1 n1 g1 m1 a0 HI0W HI1W HBW HKW
        go_wp2_with fail
        generalize w5.setCell ⟨w.heap.size + 1, 0, none⟩ (.pointer p5) = w6 at *
        go_roundw
        case rel => exact ⟨j + 1, p5, by omega, by go_num, by rw [HTE.out], HJ0.out, HJ1.out, by rw [HTE.out]; exact HK5.out, HJB.out⟩
        case measure => simp [intOf]; omega
      | false =>
        have HTE : Hid (madeB most (l.take (j + 1)) = (wrB ⟨kind, user, id, st', pr, ttl, users⟩ (sat sn qb) most sb, sat sn qb)) := HT.out
        have HWR : Hid (∀ W, Kept wr W → Calls Try.prog 14 #[.agg #[.pointer p], .agg #[.int .i64 kind, .string user, .int .i64 id, .int .i64 st', .int .i64 pr, .int .u64 ttl, users], .int .u64 (sat sn qb), .int .i64 most] W (Wrote W (wrB ⟨kind, user, id, st', pr, ttl, users⟩ (sat sn qb) most sb) (wrC ⟨kind, user, id, st', pr, ttl, users⟩ (sat sn qb) most sb) (wrE ⟨kind, user, id, st', pr, ttl, users⟩ (sat sn qb) most sb))) := fun W K =>
          write ⟨kind, user, id, st', pr, ttl, users⟩ (sat sn qb) most HU2.out hut.out (HKW.out.now K) HF.out.book (by have := HF.out.of user; simp only; omega) (by have := HF.out.len; omega)
        clear HT a8
        generalize wrB ⟨kind, user, id, st', pr, ttl, users⟩ (sat sn qb) most sb = nb at *
        generalize wrC ⟨kind, user, id, st', pr, ttl, users⟩ (sat sn qb) most sb = nc at *
        generalize wrE ⟨kind, user, id, st', pr, ttl, users⟩ (sat sn qb) most sb = ne at *
        generalize sat sn qb = now at *
        go_wp2_with fail
        have HI1D := Lib.hid (HI1W.out.drewN 1)
        refine wp_region_held_drew (S := fun w' => w'.cell? ⟨b, off + j * 9 + 1, none⟩ = some (.int .i64 kind) ∧ w'.cell? ⟨b, off + j * 9 + 2, none⟩ = some (.string user) ∧ w'.cell? ⟨b, off + j * 9 + 3, none⟩ = some (.int .i64 id) ∧ w'.cell? ⟨b, off + j * 9 + 4, none⟩ = some (.int .i64 st') ∧ w'.cell? ⟨b, off + j * 9 + 5, none⟩ = some (.int .i64 pr) ∧ w'.cell? ⟨b, off + j * 9 + 6, none⟩ = some (.int .u64 ttl) ∧ w'.cell? ⟨b, off + j * 9 + 7, none⟩ = some (users)) (by kernel_rfl) ⟨a1, a2, a3, a4, a5, a6, a7⟩ (fun hS0 => ?_)
        refine wpAnyH_take (i := 1) (oi := { dst := some 35, op := .move (.tmp 0), type := _, pos := _, after := _, guard := _ }) (v := .slice (some ⟨b, off, none⟩) l.length c) rfl (by kernel_rfl) (by kernel_rfl) (by kernel_rfl) (fun _ _ _ h => h) (Or.inl ⟨by rfl, ?_⟩) hS0 ?_
        · intro w' hSw
          go_simp
        try simp only [Act.put, List.setIfInBounds_toArray, List.set_cons_zero, List.set_cons_succ]
        refine wpAnyH_take (i := 2) (oi := { dst := some 36, op := .move (.tmp 8), type := _, pos := _, after := _, guard := _ }) (v := .int .i64 (j : Int)) rfl (by kernel_rfl) (by kernel_rfl) (by kernel_rfl) (fun _ _ _ h => h) (Or.inl ⟨by rfl, ?_⟩) hS0 ?_
        · intro w' hSw
          go_simp
        try simp only [Act.put, List.setIfInBounds_toArray, List.set_cons_zero, List.set_cons_succ]
        refine wpAnyH_take (i := 3) (oi := { dst := some 37, op := .indexAddr 22 (.tmp 35) (.tmp 36), type := _, pos := _, after := _, guard := _ }) (v := .pointer (some ⟨b, off + j * 9, none⟩)) rfl (by kernel_rfl) (by kernel_rfl) (by kernel_rfl) (fun _ _ _ h => h) (Or.inl ⟨by rfl, ?_⟩) hS0 ?_
        · intro w' hSw
          go_simp
        try simp only [Act.put, List.setIfInBounds_toArray, List.set_cons_zero, List.set_cons_succ]
        refine wpAnyH_take (i := 4) (oi := { dst := some 38, op := .fieldAddr 35 (.tmp 37) 1, type := _, pos := _, after := _, guard := _ }) (v := .pointer (some ⟨b, off + j * 9 + 1, none⟩)) rfl (by kernel_rfl) (by kernel_rfl) (by kernel_rfl) (fun _ _ _ h => h) (Or.inl ⟨by rfl, ?_⟩) hS0 ?_
        · intro w' hSw
          go_simp
        try simp only [Act.put, List.setIfInBounds_toArray, List.set_cons_zero, List.set_cons_succ]
        refine wpAnyH_take (i := 5) (oi := { dst := some 39, op := .load 33 (.tmp 38), type := _, pos := _, after := _, guard := _ }) (v := .agg #[.int .i64 kind, .string user, .int .i64 id, .int .i64 st', .int .i64 pr, .int .u64 ttl, users]) rfl (by kernel_rfl) (by kernel_rfl) (by kernel_rfl) (fun _ _ _ h => h) (Or.inl ⟨by rfl, ?_⟩) hS0 ?_
        · intro w' hSw
          go_simp
        try simp only [Act.put, List.setIfInBounds_toArray, List.set_cons_zero, List.set_cons_succ]
        refine wpAnyH_take (i := 6) (oi := { dst := some 40, op := .move (.tmp 7), type := _, pos := _, after := _, guard := _ }) (v := .int .u64 now) rfl (by kernel_rfl) (by kernel_rfl) (by kernel_rfl) (fun _ _ _ h => h) (Or.inl ⟨by rfl, ?_⟩) hS0 ?_
        · intro w' hSw
          go_simp
        try simp only [Act.put, List.setIfInBounds_toArray, List.set_cons_zero, List.set_cons_succ]
        refine wpAnyH_take (i := 7) (oi := { dst := some 41, op := .move (.tmp 1), type := _, pos := _, after := _, guard := _ }) (v := .int .i64 most) rfl (by kernel_rfl) (by kernel_rfl) (by kernel_rfl) (fun _ _ _ h => h) (Or.inl ⟨by rfl, ?_⟩) hS0 ?_
        · intro w' hSw
          go_simp
        try simp only [Act.put, List.setIfInBounds_toArray, List.set_cons_zero, List.set_cons_succ]
        refine wpAnyH_ready (rs := [0]) (by kernel_rfl) (by simp) ?_
        refine AllReadyH.cons (o := { dst := some 34, op := .load 27 (.tmp 6), type := _, pos := _, after := _, guard := _ }) rfl (fun K hK => ?_) AllReadyH.nil
        go_simp
        refine hK.out _ _ hS0 (fun hS1 => ?_)
        clear hK K
        try simp only [Act.put, List.setIfInBounds_toArray, List.set_cons_zero, List.set_cons_succ]
        refine wpAnyH_ready (rs := [8]) (by kernel_rfl) (by simp) ?_
        refine AllReadyH.cons (o := { dst := some 42, op := .call { callee := .value (.func 14), args := #[.tmp 34, .tmp 39, .tmp 40, .tmp 41], argTypes := #[27, 33, 29, 3] }, type := _, pos := _, after := _, guard := _ }) rfl (fun K hK => ?_) AllReadyH.nil
        go_simp
        refine Calls.mono (HWR.out _ (Kept.drew wr)) ?_
        rintro e w5 ⟨p5, A5, c5, rfl, k5, q5, b1⟩
        have b2 := Below.trans (Kept.drew wr) (Below.mono b1 (Nat.le_refl _))
        go_wp2_with fail
        refine hK.out _ _ (by obtain ⟨y1, y2, y3, y4, y5, y6, y7⟩ := hS1; exact ⟨(b1.cell (p := ⟨b, off + j * 9 + 1, none⟩) lb).trans y1, (b1.cell (p := ⟨b, off + j * 9 + 2, none⟩) lb).trans y2, (b1.cell (p := ⟨b, off + j * 9 + 3, none⟩) lb).trans y3, (b1.cell (p := ⟨b, off + j * 9 + 4, none⟩) lb).trans y4, (b1.cell (p := ⟨b, off + j * 9 + 5, none⟩) lb).trans y5, (b1.cell (p := ⟨b, off + j * 9 + 6, none⟩) lb).trans y6, (b1.cell (p := ⟨b, off + j * 9 + 7, none⟩) lb).trans y7⟩) (fun hS2 => ?_)
        clear hK K
        try simp only [Act.put, List.setIfInBounds_toArray, List.set_cons_zero, List.set_cons_succ]
        refine wpAnyH_take (i := 9) (oi := { dst := some 33, op := .move (.tmp 42), type := _, pos := _, after := _, guard := _ }) (v := .tuple #[M p5, .slice A5 nc.length c5, .int .i64 ne]) rfl (by kernel_rfl) (by kernel_rfl) (by kernel_rfl) (fun _ _ _ h => h) (Or.inl ⟨by rfl, ?_⟩) hS2 ?_
        · intro w' hSw
          go_simp
        try simp only [Act.put, List.setIfInBounds_toArray, List.set_cons_zero, List.set_cons_succ]
        refine wpAnyH_take (i := 10) (oi := { dst := some 43, op := .extract (.tmp 33) 0, type := _, pos := _, after := _, guard := _ }) (v := M p5) rfl (by kernel_rfl) (by kernel_rfl) (by kernel_rfl) (fun _ _ _ h => h) (Or.inl ⟨by rfl, ?_⟩) hS2 ?_
        · intro w' hSw
          go_simp
        try simp only [Act.put, List.setIfInBounds_toArray, List.set_cons_zero, List.set_cons_succ]
        refine wpAnyH_take (i := 11) (oi := { dst := some 44, op := .extract (.tmp 33) 1, type := _, pos := _, after := _, guard := _ }) (v := .slice A5 nc.length c5) rfl (by kernel_rfl) (by kernel_rfl) (by kernel_rfl) (fun _ _ _ h => h) (Or.inl ⟨by rfl, ?_⟩) hS2 ?_
        · intro w' hSw
          go_simp
        try simp only [Act.put, List.setIfInBounds_toArray, List.set_cons_zero, List.set_cons_succ]
        refine wpAnyH_take (i := 12) (oi := { dst := some 45, op := .extract (.tmp 33) 2, type := _, pos := _, after := _, guard := _ }) (v := .int .i64 ne) rfl (by kernel_rfl) (by kernel_rfl) (by kernel_rfl) (fun _ _ _ h => h) (Or.inl ⟨by rfl, ?_⟩) hS2 ?_
        · intro w' hSw
          go_simp
        try simp only [Act.put, List.setIfInBounds_toArray, List.set_cons_zero, List.set_cons_succ]
        replace HI0W := Lib.hid (HI0W.out.below b2 HI0W.out.lt)
        replace HI1W := Lib.hid (HI1W.out.below b2 HI1W.out.lt)
        replace HBW := Lib.hid (HBW.out.trans (b2.mono HBW.out.size))
        have HK5 := Lib.hid (k5.store (i := 0) HI1W.out (by decide) (by decide) (.pointer p5))
        have HJ1 := Lib.hid (HI1W.out.set 0 (.pointer p5) rfl)
        have HJ0 := Lib.hid (HI0W.out.far (p := ⟨w.heap.size + 1, 0, none⟩) (by simp) (.pointer p5))
        have HJB := Lib.hid (HBW.out.setCell (p := ⟨w.heap.size + 1, 0, none⟩) (by simp) (.pointer p5))
        have z1 := HI1W.out.cell' (i := 0) rfl
        have z2 := HI1W.out.frozen 0
        have z3 := HI1W.out.lt
        refine wpAnyH_ready (rs := [13]) (by kernel_rfl) (by simp) ?_
        refine AllReadyH.cons (o := { dst := none, op := .store 27 (.tmp 6) (.tmp 43), type := _, pos := _, after := _, guard := _ }) rfl (fun K hK => ?_) AllReadyH.nil
        go_simp
        refine hK.out _ _ (by obtain ⟨y1, y2, y3, y4, y5, y6, y7⟩ := hS2; exact ⟨(World.cell?_setCell_far _ _ _ _ (by simp only []; omega)).trans y1, (World.cell?_setCell_far _ _ _ _ (by simp only []; omega)).trans y2, (World.cell?_setCell_far _ _ _ _ (by simp only []; omega)).trans y3, (World.cell?_setCell_far _ _ _ _ (by simp only []; omega)).trans y4, (World.cell?_setCell_far _ _ _ _ (by simp only []; omega)).trans y5, (World.cell?_setCell_far _ _ _ _ (by simp only []; omega)).trans y6, (World.cell?_setCell_far _ _ _ _ (by simp only []; omega)).trans y7⟩) (fun hS3 => ?_)
        clear hK K
        try simp only [Act.put, List.setIfInBounds_toArray, List.set_cons_zero, List.set_cons_succ]
        refine wpAnyH_done (by kernel_rfl) ?_ _
        clear k5 q5 b1 b2 n1 g1 m1 a0 a1 a2 a3 a4 a5 a6 a7 HI0W HI1W HBW HKW hS0 hS1 hS2 hS3 z1 z2 z3 HWR
        generalize w5.setCell ⟨w.heap.size + 1, 0, none⟩ (.pointer p5) = w6 at *
        go_wp2_with fail
        go_roundw
        case rel => exact ⟨j + 1, p5, by omega, by go_num, by rw [HTE.out], HJ0.out, HJ1.out, by rw [HTE.out]; exact HK5.out, HJB.out⟩
        case measure => simp [intOf]; omega
    · have e1 : l.take j = l := List.take_of_length_le (by omega)
      rw [e1] at HKW
      have n1 := HI1W.out.cell' (i := 0) rfl
      have g1 := HI1W.out.frozen 0
      have m1 := HI1W.out.lt
      have n0 := HI0W.out.cell' (i := 0) rfl
      have g0 := HI0W.out.frozen 0
      have m0 := HI0W.out.lt
      rw [e1]
      have HJ0 := Lib.hid (HI0W.out.set 0 (.pointer p) rfl)
      have HJK := Lib.hid (HKW.out.store (i := 0) HI0W.out (by decide) (by decide) (.pointer p))
      have HJB := Lib.hid (HBW.out.setCell (p := ⟨w.heap.size, 0, none⟩) (Nat.le_refl _) (.pointer p))
      clear HI0W HI1W HKW HBW HF HUn e1
      generalize hst : madeB most l = st at *
      obtain ⟨sb, sn⟩ := st
      have HST := Lib.hid hst
      clear hst
      go_wp2_with fail
      generalize wr.setCell ⟨w.heap.size, 0, none⟩ (.pointer p) = w6 at *
      have y0 := HJ0.out.cell' (i := 0) rfl
      exact bodyPost_ret (v := .tuple #[M p, .int .u64 sn]) (by simp [results, Try.results23, go_sem, y0]) rfl ⟨p, by rw [HST.out], by rw [HST.out]; exact HJK.out, HJB.out⟩
end Bk
end Go.Proofs.Ytjjemdmbhgmiiaa
