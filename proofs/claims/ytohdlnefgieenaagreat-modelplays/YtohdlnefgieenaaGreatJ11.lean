/-
  What an api.Op is in memory, and an act of layer 8's statements (Sweep, Op, By): their cells, out of the reading of an argument. General over programs.
-/
import Derived.Test.YtohdlnefgieenaaGreatJ3
import Derived.Test.YtohdlnefgieenaaGreatJ10
import Derived.Test.YtohdlnefgieenaaGreatJ0
import Derived.OwnWalkIn
import Derived.OrdersHeld
import Derived.Deep.RegionHeld
import Derived.OrdersIn
import Derived.RangeFuncCalls
import Derived.RangeFuncBox
namespace Go.Law
open Go.RowKit Go.ChangeShapes Go.WideShapes Go.ChangeAt
/-- an op: kind, user, id, status, prio, ttl, users (a slice, as it is) -/
structure OpV where
  kind : Int
  user : ByteArray
  id : Int
  st : Int
  pr : Int
  ttl : Int
  users : Value
def cellsO (q : OpV) : List Value := [.int .i64 q.kind, .string q.user, .int .i64 q.id, .int .i64 q.st, .int .i64 q.pr, .int .u64 q.ttl, q.users]
structure OpV.Good (q : OpV) : Prop where
  kind : (Lit.int .i64 q.kind).wf = true
  user : q.user.size ≤ maxLen
  id : (Lit.int .i64 q.id).wf = true
  st : (Lit.int .i64 q.st).wf = true
  pr : (Lit.int .i64 q.pr).wf = true
  ttl : (Lit.int .u64 q.ttl).wf = true
  users : ∃ A n c, q.users = .slice A n c
section
variable {H : Type} {enc : TypeId × Value → H} {P : Program} {W : World} {base : Nat} {sp : Nat → Bool} {hd : Bool} {fuel : Nat} {cs : List Value} {x : DataW H × List MemPlace}
theorem dec_op {o ts : TypeId} {g0 g1 g2 g3 g4 g5 g6 : Field} (ho : P.underlying o = some (.struct #[g0, g1, g2, g3, g4, g5, g6])) (co : P.cellsOf o = 7)
    (o0 : g0.offset = 0) (o1 : g1.offset = 1) (o2 : g2.offset = 2) (o3 : g3.offset = 3) (o4 : g4.offset = 4) (o5 : g5.offset = 5) (o6 : g6.offset = 6)
    (c0 : P.cellsOf g0.type = 1) (c1 : P.cellsOf g1.type = 1) (c2 : P.cellsOf g2.type = 1) (c3 : P.cellsOf g3.type = 1) (c4 : P.cellsOf g4.type = 1) (c5 : P.cellsOf g5.type = 1) (c6 : P.cellsOf g6.type = 1)
    (u0 : P.underlying g0.type = some (.int .i64)) (u1 : P.underlying g1.type = some .string) (u2 : P.underlying g2.type = some (.int .i64)) (u3 : P.underlying g3.type = some (.int .i64)) (u4 : P.underlying g4.type = some (.int .i64)) (u5 : P.underlying g5.type = some (.int .u64)) (u6 : P.underlying g6.type = some (.slice ts))
    (h : DataW.trod enc P W base sp hd fuel o cs = some x) : ∃ q : OpV, cs = cellsO q ∧ q.Good := by
  obtain ⟨xs, n, _, _, hl, hxl, hf⟩ := DataW.trod_struct ho h
  rw [co] at hl
  match cs, hl, xs, hxl with
  | [v0, v1, v2, v3, v4, v5, v6], _, [y0, y1, y2, y3, y4, y5, y6], _ =>
    have k0 := hf 0 g0 rfl
    have k1 := hf 1 g1 rfl
    have k2 := hf 2 g2 rfl
    have k3 := hf 3 g3 rfl
    have k4 := hf 4 g4 rfl
    have k5 := hf 5 g5 rfl
    have k6 := hf 6 g6 rfl
    simp [o0, o1, o2, o3, o4, o5, o6, c0, c1, c2, c3, c4, c5, c6] at k0 k1 k2 k3 k4 k5 k6
    obtain ⟨a0, e0, _, w0⟩ := DataW.trod_int u0 k0
    obtain ⟨a1, e1, _, w1⟩ := DataW.trod_string u1 k1
    obtain ⟨a2, e2, _, w2⟩ := DataW.trod_int u2 k2
    obtain ⟨a3, e3, _, w3⟩ := DataW.trod_int u3 k3
    obtain ⟨a4, e4, _, w4⟩ := DataW.trod_int u4 k4
    obtain ⟨a5, e5, _, w5⟩ := DataW.trod_int u5 k5
    have w6 : ∃ A n c, v6 = .slice A n c := by
      rcases Go.Deep.open_slice u6 k6 with ⟨hcs, _⟩ | ⟨_, _, _, _, _, _, _, hcs, _⟩
      · simp at hcs; exact ⟨_, _, _, hcs⟩
      · simp at hcs; exact ⟨_, _, _, hcs⟩
    simp at e0 e1 e2 e3 e4 e5
    subst e0 e1 e2 e3 e4 e5
    exact ⟨⟨a0, a1, a2, a3, a4, a5, v6⟩, rfl, w0, w1, w2, w3, w4, w5, w6⟩
/-- an act: whether it is a sweep; else an op; behind so much time -/
structure ActV where
  sweep : Bool
  op : OpV
  by_ : Int
def cellsA (q : ActV) : List Value := .bool q.sweep :: (cellsO q.op ++ [.int .u64 q.by_])
theorem cellsA_length (q : ActV) : (cellsA q).length = 9 := rfl
structure ActV.Good (q : ActV) : Prop where
  op : q.op.Good
  by_ : (Lit.int .u64 q.by_).wf = true
theorem dec_act {e : TypeId} {f0 f1 f2 : Field} (he : P.underlying e = some (.struct #[f0, f1, f2])) (ce : P.cellsOf e = 9) (o0 : f0.offset = 0) (o1 : f1.offset = 1) (o2 : f2.offset = 8)
    (c0 : P.cellsOf f0.type = 1) (c1 : P.cellsOf f1.type = 7) (c2 : P.cellsOf f2.type = 1) (u0 : P.underlying f0.type = some .bool) (u2 : P.underlying f2.type = some (.int .u64))
    (dop : ∀ fuel cs x, DataW.trod enc P W base sp hd fuel f1.type cs = some x → ∃ q : OpV, cs = cellsO q ∧ q.Good)
    (h : DataW.trod enc P W base sp hd fuel e cs = some x) : ∃ q : ActV, cs = cellsA q ∧ q.Good := by
  obtain ⟨xs, n, _, _, hl, hxl, hf⟩ := DataW.trod_struct he h
  rw [ce] at hl
  match cs, hl, xs, hxl with
  | [v0, v1, v2, v3, v4, v5, v6, v7, v8], _, [y0, y1, y2], _ =>
    have k0 := hf 0 f0 rfl
    have k1 := hf 1 f1 rfl
    have k2 := hf 2 f2 rfl
    simp [o0, o1, o2, c0, c1, c2] at k0 k1 k2
    obtain ⟨a0, e0, _⟩ := DataW.trod_bool u0 k0
    obtain ⟨q, e1, g1⟩ := dop _ _ _ k1
    obtain ⟨a2, e2, _, w2⟩ := DataW.trod_int u2 k2
    simp at e0 e2
    subst e0 e2
    exact ⟨⟨a0, q, a2⟩, by unfold cellsA; rw [← e1]; rfl, g1, w2⟩
end
end Go.Law
/-
  What written, Write and Presence of layer 8 (book) come to.
-/
namespace Go.Law
theorem wrote_set (id st pr un most : Int) (l : List Sn) : SetTo (id, st, pr, un) most l (wrote 1 id st pr un most l).1 (wrote 1 id st pr un most l).2 := by
  unfold wrote SetTo
  rw [if_pos rfl]
  cases h : hasS id l with
  | true => exact .inl ⟨rfl, by simp, by simp⟩
  | false =>
    by_cases hm : (l.length : Int) < most
    · exact .inr (.inr ⟨rfl, hm, by simp [hm], by simp [hm]⟩)
    · exact .inr (.inl ⟨rfl, by omega, by simp [hm], by simp [hm]⟩)
theorem wrote_beat (id st pr un most : Int) (l : List Sn) : BeatTo id un l (wrote 2 id st pr un most l).1 (wrote 2 id st pr un most l).2 := by
  unfold wrote BeatTo
  rw [if_neg (by decide), if_pos rfl]
  cases h : hasS id l with
  | true => exact .inl ⟨rfl, by simp, by simp⟩
  | false => exact .inr ⟨rfl, by simp, by simp⟩
theorem wrote_clear (id st pr un most : Int) (l : List Sn) : wrote 3 id st pr un most l = (out id l, if hasS id l then 0 else 3) := by
  unfold wrote
  rw [if_neg (by decide), if_neg (by decide), if_pos rfl]
  cases h : hasS id l with
  | true => simp
  | false => simp [out_none h]
theorem wrote_else {kind : Int} (id st pr un most : Int) (l : List Sn) (h1 : kind ≠ 1) (h2 : kind ≠ 2) (h3 : kind ≠ 3) : wrote kind id st pr un most l = (l, 0) := by
  unfold wrote
  rw [if_neg h1, if_neg h2, if_neg h3]
theorem wrote_le (kind id st pr un most : Int) (l : List Sn) : (wrote kind id st pr un most l).1.length ≤ l.length + 1 := by
  unfold wrote
  split
  · split
    · exact put_le _ _
    · simp
  · split
    · split
      · simp only; rw [beat_length]; omega
      · simp
    · split
      · split
        · have := outK_length id l; simp only; unfold out; omega
        · simp
      · simp
/-- an op, as a value -/
abbrev OpV.val (q : OpV) : Value := .agg #[.int .i64 q.kind, .string q.user, .int .i64 q.id, .int .i64 q.st, .int .i64 q.pr, .int .u64 q.ttl, q.users]
end Go.Law
namespace Go.Proofs.YtohdlnefgieenaaGreat
open Go.RowKit
namespace Bk
open Go.Law Go.Proofs.YtohdlnefgieenaaGreat.OmapB Door

/-- behind a call of layer 6: this list lies there, this is the error's number, nothing old has turned -/
def Gives (w : World) (ls : List Sn) (er : Int) (e : Ending) (w' : World) : Prop := ∃ A c, e = .returned (.tuple #[.slice A ls.length c, .int .i64 er]) ∧ Lain 138 w' A (flatS ls) ∧ Below w.heap.size w w'
theorem gives {w : World} {ls : List Sn} {er : Int} {e : Ending} {w' : World} (h : Sess.Listed2 w ls er e w') : Gives w ls er e w' := by
  obtain ⟨A, c, he, hr, hb⟩ := h
  exact ⟨A, c, he, Lain.own hr, hb⟩
section
variable {us ls : List Sn} {A : Option Addr} {c : Nat} {w : World} {er : Int}
theorem set_ {s : Sn} {most : Int} (h : SetTo s most us ls er) (hs : Seq w 0 w.heap.size A (flatS us)) (hl : us.length ≤ 900) (hu : Up us) : Calls Tryz.prog 112 #[.slice A us.length c, V s, .int .i64 most] w (Gives w ls er) := by
  rcases h with ⟨h, rfl, rfl⟩ | ⟨h, hm, rfl, rfl⟩ | ⟨h, hm, rfl, rfl⟩
  · exact (Sess.setOver s most us A c w hs hl hu h).mono fun _ _ h => gives h
  · exact (Sess.setFull s most _ A c w hs hl h hm).mono fun _ _ h => gives h
  · exact (Sess.setNew s most us A c w hs hl h hm).mono fun _ _ h => gives h
theorem beat_ {k u : Int} (h : BeatTo k u us ls er) (hs : Seq w 0 w.heap.size A (flatS us)) (hl : us.length ≤ 900) (hu : Up us) : Calls Tryz.prog 113 #[.slice A us.length c, .int .i64 k, .int .u64 u] w (Gives w ls er) := by
  rcases h with ⟨h, rfl, rfl⟩ | ⟨h, rfl, rfl⟩
  · exact (Sess.beatOne k u us A c w hs hl hu h).mono fun _ _ h => gives h
  · exact (Sess.beatNo k u _ A c w hs hl h).mono fun _ _ h => gives h
theorem clear_ {k : Int} (b : Bool) (hb : hasS k us = b) (her : er = if b then 0 else 3) (hs : Seq w 0 w.heap.size A (flatS us)) (hl : us.length ≤ 900) (hu : Up us) : Calls Tryz.prog 114 #[.slice A us.length c, .int .i64 k] w (Gives w (out k us) er) := by
  subst her
  cases b
  · rw [out_none hb]; exact (Sess.clearNo k us A c w hs hl hb).mono fun _ _ h => gives h
  · exact (Sess.clearOne k us A c w hs hl hu hb).mono fun _ _ h => gives h
theorem purge_ {now : Int} (e : live now us = ls) (hs : Seq w 0 w.heap.size A (flatS us)) (hl : us.length ≤ 900) : Calls Tryz.prog 85 #[.slice A us.length c, .int .u64 now] w fun e w' => ∃ A c, e = .returned (.slice A ls.length c) ∧ Lain 138 w' A (flatS ls) ∧ Below w.heap.size w w' := by
  subst e
  exact (Sess.purge now us A c w hs hl).mono fun _ _ ⟨A, c, he, hr, hb⟩ => ⟨A, c, he, Lain.own hr, hb⟩
end

set_option maxRecDepth 100000 in
set_option maxHeartbeats 4000000 in
theorem written_ (q : OpV) (now most : Int) {w : World} {A : Option Addr} {c : Nat} {us : List Sn} (hU : U now) (hT : U q.ttl) (hs : Lain 138 w A (flatS us)) (hl : us.length ≤ 900) (hu : Up us) :
    Calls Tryz.prog 97 #[.slice A us.length c, q.val, .int .u64 now, .int .i64 most] w (Gives w (wrote q.kind q.id q.st q.pr (sat now q.ttl) most us).1 (wrote q.kind q.id q.st q.pr (sat now q.ttl) most us).2) := by
  obtain ⟨kind, user, id, st, pr, ttl, users⟩ := q
  simp only [OpV.val]
  have HS := Lib.hid hs
  have HU := Lib.hid hu
  have HB := Lib.hid (Below.refl w.heap.size w)
  have HU1 := Lib.hid hU
  have HU2 : Hid (U ttl) := hT
  clear hs hu hU hT
  by_cases k1 : kind = 1
  · subst k1
    go_enter Tryz.func97, Tryz.ntmps97
    go_wp2_with fail
    have HI0 := Lib.hid (Is.new w 37 #[.int .i64 1, .string user, .int .i64 id, .int .i64 st, .int .i64 pr, .int .u64 ttl, users] rfl)
    have bx := (Below.refl w.heap.size w).alloc (Nat.le_refl _) (.cells #[.int .i64 1, .string user, .int .i64 id, .int .i64 st, .int .i64 pr, .int .u64 ttl, users] 37)
    replace HS := Lib.hid (HS.out.now bx)
    replace HB := Lib.hid (HB.out.trans (bx.mono HB.out.size))
    generalize w.alloc (.cells #[.int .i64 1, .string user, .int .i64 id, .int .i64 st, .int .i64 pr, .int .u64 ttl, users] 37) = w1 at *
    clear bx
    refine (Tick.add now ttl HU1.out HU2.out _).mono ?_
    rintro e w' ⟨rfl, rfl⟩
    have i0 := HI0.out.cell' (i := 0) rfl
    have i1 := HI0.out.cell' (i := 1) rfl
    have i2 := HI0.out.cell' (i := 2) rfl
    have i3 := HI0.out.cell' (i := 3) rfl
    have i4 := HI0.out.cell' (i := 4) rfl
    have i5 := HI0.out.cell' (i := 5) rfl
    have i6 := HI0.out.cell' (i := 6) rfl
    generalize sat now ttl = un at *
    go_wp2_with fail
    refine (set_ (wrote_set id st pr un most us) HS.out.seq hl HU.out).mono ?_
    rintro e w2 ⟨A2, c2, rfl, s2, b2⟩
    have HS2 := Lib.hid s2
    replace HB := Lib.hid (HB.out.trans (b2.mono HB.out.size))
    clear s2 b2 i0 i1 i2 i3 i4 i5 i6
    generalize (wrote 1 id st pr un most us).1 = ls at *
    generalize (wrote 1 id st pr un most us).2 = er at *
    go_wp2_with fail
    exact bodyPost_ret (v := .tuple #[.slice A2 ls.length c2, .int .i64 er]) (by simp [results, Tryz.results97, go_sem]) rfl ⟨A2, c2, rfl, HS2.out, HB.out⟩
  · by_cases k2 : kind = 2
    · subst k2
      go_enter Tryz.func97, Tryz.ntmps97
      go_wp2_with fail
      have HI0 := Lib.hid (Is.new w 37 #[.int .i64 2, .string user, .int .i64 id, .int .i64 st, .int .i64 pr, .int .u64 ttl, users] rfl)
      have bx := (Below.refl w.heap.size w).alloc (Nat.le_refl _) (.cells #[.int .i64 2, .string user, .int .i64 id, .int .i64 st, .int .i64 pr, .int .u64 ttl, users] 37)
      replace HS := Lib.hid (HS.out.now bx)
      replace HB := Lib.hid (HB.out.trans (bx.mono HB.out.size))
      generalize w.alloc (.cells #[.int .i64 2, .string user, .int .i64 id, .int .i64 st, .int .i64 pr, .int .u64 ttl, users] 37) = w1 at *
      clear bx
      refine (Tick.add now ttl HU1.out HU2.out _).mono ?_
      rintro e w' ⟨rfl, rfl⟩
      have i0 := HI0.out.cell' (i := 0) rfl
      have i1 := HI0.out.cell' (i := 1) rfl
      have i2 := HI0.out.cell' (i := 2) rfl
      have i3 := HI0.out.cell' (i := 3) rfl
      have i4 := HI0.out.cell' (i := 4) rfl
      have i5 := HI0.out.cell' (i := 5) rfl
      have i6 := HI0.out.cell' (i := 6) rfl
      generalize sat now ttl = un at *
      go_wp2_with fail
      refine (beat_ (wrote_beat id st pr un most us) HS.out.seq hl HU.out).mono ?_
      rintro e w2 ⟨A2, c2, rfl, s2, b2⟩
      have HS2 := Lib.hid s2
      replace HB := Lib.hid (HB.out.trans (b2.mono HB.out.size))
      clear s2 b2 i0 i1 i2 i3 i4 i5 i6
      generalize (wrote 2 id st pr un most us).1 = ls at *
      generalize (wrote 2 id st pr un most us).2 = er at *
      go_wp2_with fail
      exact bodyPost_ret (v := .tuple #[.slice A2 ls.length c2, .int .i64 er]) (by simp [results, Tryz.results97, go_sem]) rfl ⟨A2, c2, rfl, HS2.out, HB.out⟩
    · by_cases k3 : kind = 3
      · subst k3
        go_enter Tryz.func97, Tryz.ntmps97
        go_wp2_with fail
        have HI0 := Lib.hid (Is.new w 37 #[.int .i64 3, .string user, .int .i64 id, .int .i64 st, .int .i64 pr, .int .u64 ttl, users] rfl)
        have bx := (Below.refl w.heap.size w).alloc (Nat.le_refl _) (.cells #[.int .i64 3, .string user, .int .i64 id, .int .i64 st, .int .i64 pr, .int .u64 ttl, users] 37)
        replace HS := Lib.hid (HS.out.now bx)
        replace HB := Lib.hid (HB.out.trans (bx.mono HB.out.size))
        generalize w.alloc (.cells #[.int .i64 3, .string user, .int .i64 id, .int .i64 st, .int .i64 pr, .int .u64 ttl, users] 37) = w1 at *
        clear bx
        refine (Tick.add now ttl HU1.out HU2.out _).mono ?_
        rintro e w' ⟨rfl, rfl⟩
        have i0 := HI0.out.cell' (i := 0) rfl
        have i1 := HI0.out.cell' (i := 1) rfl
        have i2 := HI0.out.cell' (i := 2) rfl
        have i3 := HI0.out.cell' (i := 3) rfl
        have i4 := HI0.out.cell' (i := 4) rfl
        have i5 := HI0.out.cell' (i := 5) rfl
        have i6 := HI0.out.cell' (i := 6) rfl
        generalize sat now ttl = un at *
        go_wp2_with fail
        have hG : Calls Tryz.prog 114 #[.slice A us.length c, .int .i64 id] w1 (Gives w1 (wrote 3 id st pr un most us).1 (wrote 3 id st pr un most us).2) := by rw [wrote_clear]; exact clear_ (hasS id us) rfl rfl HS.out.seq hl HU.out
        refine hG.mono ?_
        clear hG
        rintro e w2 ⟨A2, c2, rfl, s2, b2⟩
        have HS2 := Lib.hid s2
        replace HB := Lib.hid (HB.out.trans (b2.mono HB.out.size))
        clear s2 b2 i0 i1 i2 i3 i4 i5 i6
        generalize (wrote 3 id st pr un most us).1 = ls at *
        generalize (wrote 3 id st pr un most us).2 = er at *
        go_wp2_with fail
        exact bodyPost_ret (v := .tuple #[.slice A2 ls.length c2, .int .i64 er]) (by simp [results, Tryz.results97, go_sem]) rfl ⟨A2, c2, rfl, HS2.out, HB.out⟩
      · have d1 : (kind == 1) = false := by simpa using k1
        have d2 : (kind == 2) = false := by simpa using k2
        have d3 : (kind == 3) = false := by simpa using k3
        go_enter Tryz.func97, Tryz.ntmps97
        go_wp2_with fail
        have HI0 := Lib.hid (Is.new w 37 #[.int .i64 kind, .string user, .int .i64 id, .int .i64 st, .int .i64 pr, .int .u64 ttl, users] rfl)
        have bx := (Below.refl w.heap.size w).alloc (Nat.le_refl _) (.cells #[.int .i64 kind, .string user, .int .i64 id, .int .i64 st, .int .i64 pr, .int .u64 ttl, users] 37)
        replace HS := Lib.hid (HS.out.now bx)
        replace HB := Lib.hid (HB.out.trans (bx.mono HB.out.size))
        generalize w.alloc (.cells #[.int .i64 kind, .string user, .int .i64 id, .int .i64 st, .int .i64 pr, .int .u64 ttl, users] 37) = w1 at *
        clear bx
        refine (Tick.add now ttl HU1.out HU2.out _).mono ?_
        rintro e w' ⟨rfl, rfl⟩
        have i0 := HI0.out.cell' (i := 0) rfl
        have i1 := HI0.out.cell' (i := 1) rfl
        have i2 := HI0.out.cell' (i := 2) rfl
        have i3 := HI0.out.cell' (i := 3) rfl
        have i4 := HI0.out.cell' (i := 4) rfl
        have i5 := HI0.out.cell' (i := 5) rfl
        have i6 := HI0.out.cell' (i := 6) rfl
        generalize sat now ttl = un at *
        go_wp2_with fail
        rw [wrote_else _ _ _ _ _ _ k1 k2 k3]
        exact bodyPost_ret (v := .tuple #[.slice A us.length c, .int .i64 0]) (by simp [results, Tryz.results97, go_sem]) rfl ⟨A, c, rfl, HS.out, HB.out⟩

set_option maxRecDepth 100000 in
set_option maxHeartbeats 4000000 in
theorem presence (u : ByteArray) (now : Int) {s0 s1 s2 : Int} {w : World} {p : Option Addr} {b : List (ByteArray × En)} (hp : presS now (sesK u b) = (s0, s1, s2)) (h : Booked w p b) (hR : Rises lt b) (hl : (sesK u b).length ≤ 900) :
    Calls Tryz.prog 41 #[M p, .string u, .int .u64 now] w fun e w' => e = .returned (.agg #[.int .i64 s0, .int .i64 s1, .int .i64 s2]) ∧ Below w.heap.size w w' := by
  obtain ⟨t0, t1, t2, ht⟩ : ∃ t0 t1 t2, toldK u b = (t0, t1, t2) := ⟨_, _, _, rfl⟩
  have H := Lib.hid h
  have HR := Lib.hid hR
  have HT := Lib.hid ht
  have HP := Lib.hid hp
  have HB := Lib.hid (Below.refl w.heap.size w)
  clear h hR ht hp
  generalize hss : sesK u b = ss at *
  have HSS := Lib.hid hss
  clear hss
  have b0 := ((Below.refl w.heap.size w).alloc (Nat.le_refl _) (.cells #[.pointer p] 72)).alloc (by simp) (.cells #[.int .i64 0, .int .i64 0, .int .i64 0] 57)
  have HI1 := Lib.hid (Is.new (w.alloc (.cells #[.pointer p] 72)) 57 #[.int .i64 0, .int .i64 0, .int .i64 0] (g := w.heap.size + 1) (by simp))
  replace H := Lib.hid (H.out.now b0)
  replace HB := Lib.hid (HB.out.trans (b0.mono HB.out.size))
  clear b0
  go_enter Tryz.func41, Tryz.ntmps41
  go_wp2_with fail
  generalize ((w.alloc (.cells #[.pointer p] 72)).alloc (.cells #[.int .i64 0, .int .i64 0, .int .i64 0] 57)) = w0 at *
  refine (get u HSS.out HT.out rfl H.out HR.out).mono ?_
  rintro e w1 ⟨A1, c1, rfl, sq, b1⟩
  have HS := Lib.hid sq
  replace HI1 := Lib.hid (HI1.out.below b1 HI1.out.lt)
  replace HB := Lib.hid (HB.out.trans (b1.mono HB.out.size))
  clear b1 sq H
  go_wp2_with fail
  have HI2 := Lib.hid (Is.new w1 145 #[.slice A1 ss.length c1, .int .i64 t0, .int .i64 t1, .int .i64 t2] rfl)
  have bx := (Below.refl w1.heap.size w1).alloc (Nat.le_refl _) (.cells #[.slice A1 ss.length c1, .int .i64 t0, .int .i64 t1, .int .i64 t2] 145)
  replace HI1 := Lib.hid (HI1.out.below bx HI1.out.lt)
  replace HS := Lib.hid (HS.out.now bx)
  replace HB := Lib.hid (HB.out.trans (bx.mono HB.out.size))
  generalize w1.alloc (.cells #[.slice A1 ss.length c1, .int .i64 t0, .int .i64 t1, .int .i64 t2] 145) = w2 at *
  clear bx
  refine (ofP HP.out HS.out.seq hl).mono ?_
  rintro e w3 ⟨rfl, b1⟩
  replace HI1 := Lib.hid (HI1.out.below b1 HI1.out.lt)
  replace HB := Lib.hid (HB.out.trans (b1.mono HB.out.size))
  have l1 := HI1.out.lt
  have f0 := HI1.out.frozen 0
  have f1 := HI1.out.frozen 1
  have f2 := HI1.out.frozen 2
  have m0 := HI1.out.cell' (i := 0) rfl
  have m1 := HI1.out.cell' (i := 1) rfl
  have m2 := HI1.out.cell' (i := 2) rfl
  have HI3 := Lib.hid (((HI1.out.set 0 (.int .i64 s0) rfl).set 1 (.int .i64 s1) rfl).set 2 (.int .i64 s2) rfl)
  have HB3 := Lib.hid (((HB.out.setCell (p := ⟨w.heap.size + 1, 0, none⟩) (Nat.le_succ _) (.int .i64 s0)).setCell (p := ⟨w.heap.size + 1, 1, none⟩) (Nat.le_succ _) (.int .i64 s1)).setCell (p := ⟨w.heap.size + 1, 2, none⟩) (Nat.le_succ _) (.int .i64 s2))
  clear b1 HS HI2
  go_wp2_with fail
  generalize ((w3.setCell ⟨w.heap.size + 1, 0, none⟩ (.int .i64 s0)).setCell ⟨w.heap.size + 1, 1, none⟩ (.int .i64 s1)).setCell ⟨w.heap.size + 1, 2, none⟩ (.int .i64 s2) = w4 at *
  have n0 := HI3.out.cell' (i := 0) rfl
  have n1 := HI3.out.cell' (i := 1) rfl
  have n2 := HI3.out.cell' (i := 2) rfl
  exact bodyPost_ret (v := .agg #[.int .i64 s0, .int .i64 s1, .int .i64 s2]) (by simp [results, Tryz.results41, go_sem, n0, n1, n2]) rfl ⟨rfl, HB3.out⟩
/-- what a writing makes of a book, what has to be told, the error -/
def wrS (q : OpV) (now most : Int) (b : List (ByteArray × En)) : List Sn := (wrote q.kind q.id q.st q.pr (sat now q.ttl) most (live now (sesK q.user b))).1
def wrB (q : OpV) (now most : Int) (b : List (ByteArray × En)) : List (ByteArray × En) := become lt q.user (wrS q now most b) now b
def wrC (q : OpV) (now most : Int) (b : List (ByteArray × En)) : List Ch := tells q.user (wrS q now most b) now b
def wrE (q : OpV) (now most : Int) (b : List (ByteArray × En)) : Int := (wrote q.kind q.id q.st q.pr (sat now q.ttl) most (live now (sesK q.user b))).2
def Wrote (w : World) (b : List (ByteArray × En)) (cs : List Ch) (er : Int) (e : Ending) (w' : World) : Prop := ∃ p A c, e = .returned (.tuple #[M p, .slice A cs.length c, .int .i64 er]) ∧ Booked w' p b ∧ Lain 185 w' A (flatC cs) ∧ Below w.heap.size w w'

set_option maxRecDepth 100000 in
set_option maxHeartbeats 4000000 in
theorem write (q : OpV) (now most : Int) {w : World} {p : Option Addr} {b : List (ByteArray × En)} (hU : U now) (hT : U q.ttl) (h : Booked w p b) (hb : Book lt b) (hl : (sesK q.user b).length ≤ 899) (hn : b.length ≤ 900) :
    Calls Tryz.prog 73 #[M p, q.val, .int .u64 now, .int .i64 most] w (Wrote w (wrB q now most b) (wrC q now most b) (wrE q now most b)) := by
  obtain ⟨t0, t1, t2, ht⟩ : ∃ t0 t1 t2, toldK q.user b = (t0, t1, t2) := ⟨_, _, _, rfl⟩
  obtain ⟨ss, hss⟩ : ∃ ss, sesK q.user b = ss := ⟨_, rfl⟩
  rw [hss] at hl
  have hup : Up ss := hss ▸ hb.ses lt q.user
  have hvl := live_length now ss
  have HVU := Lib.hid (live_up now hup)
  have HG : Hid (∀ {W : World} {A : Option Addr} {c : Nat}, Lain 138 W A (flatS (live now ss)) → Calls Tryz.prog 97 #[.slice A (live now ss).length c, q.val, .int .u64 now, .int .i64 most] W (Gives W (wrS q now most b) (wrE q now most b))) := by
    intro W A c hs
    have := written_ q now most (c := c) hU hT hs (by omega) HVU.out
    unfold wrS wrE
    rw [hss]
    exact this
  have HBM : Hid (∀ {W : World} {A : Option Addr} {c : Nat}, Booked W p b → Lain 138 W A (flatS (wrS q now most b)) → Calls Tryz.prog 84 #[M p, .string q.user, .slice A (wrS q now most b).length c, .int .u64 now] W (Told W (wrB q now most b) (wrC q now most b))) := by
    intro W A c hB hs
    refine become_ q.user (wrS q now most b) now hB hb.1 hs ?_ hn
    have := wrote_le q.kind q.id q.st q.pr (sat now q.ttl) most (live now ss)
    unfold wrS
    rw [hss]
    omega
  have H := Lib.hid h
  have HR := Lib.hid hb.1
  have HT := Lib.hid ht
  have HSS := Lib.hid hss
  have HB := Lib.hid (Below.refl w.heap.size w)
  clear h hb ht hss hU hT HVU hup hn hvl
  generalize wrS q now most b = ls at *
  generalize wrB q now most b = b' at *
  generalize wrC q now most b = cs at *
  generalize wrE q now most b = er at *
  obtain ⟨kind, user, id, st, pr, ttl, users⟩ := q
  simp only [OpV.val] at *
  go_enter Tryz.func73, Tryz.ntmps73
  go_wp2_with fail
  have bx := ((((Below.refl w.heap.size w).alloc (Nat.le_refl _) (.cells #[.pointer p] 72)).alloc (by simp only [World.size_alloc]; omega) (.cells #[.int .i64 kind, .string user, .int .i64 id, .int .i64 st, .int .i64 pr, .int .u64 ttl, users] 37)).alloc (by simp only [World.size_alloc]; omega) (.cells #[.pointer none] 72))
  have HI0 := Lib.hid (((Is.new w 72 #[.pointer p] rfl).alloc (.cells #[.int .i64 kind, .string user, .int .i64 id, .int .i64 st, .int .i64 pr, .int .u64 ttl, users] 37)).alloc (.cells #[.pointer none] 72))
  have HI1 := Lib.hid ((Is.new (w.alloc (.cells #[.pointer p] 72)) 37 #[.int .i64 kind, .string user, .int .i64 id, .int .i64 st, .int .i64 pr, .int .u64 ttl, users] (g := w.heap.size + 1) (by simp only [World.size_alloc])).alloc (.cells #[.pointer none] 72))
  have HI2 := Lib.hid (Is.new ((w.alloc (.cells #[.pointer p] 72)).alloc (.cells #[.int .i64 kind, .string user, .int .i64 id, .int .i64 st, .int .i64 pr, .int .u64 ttl, users] 37)) 72 #[.pointer none] (g := w.heap.size + 1 + 1) (by simp only [World.size_alloc]))
  replace H := Lib.hid (H.out.now bx)
  replace HB := Lib.hid (HB.out.trans (bx.mono HB.out.size))
  generalize (((w.alloc (.cells #[.pointer p] 72)).alloc (.cells #[.int .i64 kind, .string user, .int .i64 id, .int .i64 st, .int .i64 pr, .int .u64 ttl, users] 37)).alloc (.cells #[.pointer none] 72)) = w0 at *
  clear bx
  refine (get user HSS.out HT.out rfl H.out HR.out).mono ?_
  rintro e w1 ⟨A1, c1, rfl, sq, b1⟩
  have HS := Lib.hid sq
  replace HI0 := Lib.hid (HI0.out.below b1 HI0.out.lt)
  replace HI1 := Lib.hid (HI1.out.below b1 HI1.out.lt)
  replace HI2 := Lib.hid (HI2.out.below b1 HI2.out.lt)
  replace H := Lib.hid (H.out.now b1)
  replace HB := Lib.hid (HB.out.trans (b1.mono HB.out.size))
  clear b1 sq
  go_wp2_with fail
  have HI3 := Lib.hid (Is.new w1 145 #[.slice A1 ss.length c1, .int .i64 t0, .int .i64 t1, .int .i64 t2] rfl)
  have bx := (Below.refl w1.heap.size w1).alloc (Nat.le_refl _) (.cells #[.slice A1 ss.length c1, .int .i64 t0, .int .i64 t1, .int .i64 t2] 145)
  replace HI0 := Lib.hid (HI0.out.below bx HI0.out.lt)
  replace HI1 := Lib.hid (HI1.out.below bx HI1.out.lt)
  replace HI2 := Lib.hid (HI2.out.below bx HI2.out.lt)
  replace HS := Lib.hid (HS.out.now bx)
  replace H := Lib.hid (H.out.now bx)
  replace HB := Lib.hid (HB.out.trans (bx.mono HB.out.size))
  generalize w1.alloc (.cells #[.slice A1 ss.length c1, .int .i64 t0, .int .i64 t1, .int .i64 t2] 145) = w2 at *
  clear bx
  have HPU : Hid (∀ w', Kept w2 w' → Calls Tryz.prog 85 #[.slice A1 ss.length c1, .int .u64 now] w' fun e w'' => ∃ A c, e = .returned (.slice A (live now ss).length c) ∧ Lain 138 w'' A (flatS (live now ss)) ∧ Kept w2 w'') := fun w' K =>
    (purge_ rfl (HS.out.now K).seq (by omega)).mono fun _ _ ⟨A, c, he, hs, hb⟩ => ⟨A, c, he, hs, Below.trans K (Below.mono hb K.size)⟩
  have HWR : Hid (∀ w' A c, Kept w2 w' → Lain 138 w' A (flatS (live now ss)) → Calls Tryz.prog 97 #[.slice A (live now ss).length c, .agg #[.int .i64 kind, .string user, .int .i64 id, .int .i64 st, .int .i64 pr, .int .u64 ttl, users], .int .u64 now, .int .i64 most] w' fun e w'' => ∃ A c, e = .returned (.tuple #[.slice A ls.length c, .int .i64 er]) ∧ Lain 138 w'' A (flatS ls) ∧ Kept w2 w'') := fun w' A c K hs =>
    (HG.out hs).mono fun _ _ ⟨A, c, he, hs, hb⟩ => ⟨A, c, he, hs, Below.trans K (Below.mono hb K.size)⟩
  have HK : Hid (∀ w', Kept w2 w' → (w'.cell? ⟨w1.heap.size, 0, none⟩ = some (.slice A1 ss.length c1) ∧ w'.cell? ⟨w.heap.size + 1, 0, none⟩ = some (.int .i64 kind) ∧ w'.cell? ⟨w.heap.size + 1, 1, none⟩ = some (.string user) ∧ w'.cell? ⟨w.heap.size + 1, 2, none⟩ = some (.int .i64 id) ∧ w'.cell? ⟨w.heap.size + 1, 3, none⟩ = some (.int .i64 st) ∧ w'.cell? ⟨w.heap.size + 1, 4, none⟩ = some (.int .i64 pr) ∧ w'.cell? ⟨w.heap.size + 1, 5, none⟩ = some (.int .u64 ttl) ∧ w'.cell? ⟨w.heap.size + 1, 6, none⟩ = some (users)) ∧ Kept w2 w') := fun w' K => ⟨⟨(HI3.out.below K HI3.out.lt).cell' rfl, (HI1.out.below K HI1.out.lt).cell' rfl, (HI1.out.below K HI1.out.lt).cell' rfl, (HI1.out.below K HI1.out.lt).cell' rfl, (HI1.out.below K HI1.out.lt).cell' rfl, (HI1.out.below K HI1.out.lt).cell' rfl, (HI1.out.below K HI1.out.lt).cell' rfl, (HI1.out.below K HI1.out.lt).cell' rfl⟩, K⟩
  have K0 : Kept w2 (w2.drewN 1) := Kept.drew w2
  clear HG HS
  generalize live now ss = vs at *
  go_region_held3 (fun w' => (w'.cell? ⟨w1.heap.size, 0, none⟩ = some (.slice A1 ss.length c1) ∧ w'.cell? ⟨w.heap.size + 1, 0, none⟩ = some (.int .i64 kind) ∧ w'.cell? ⟨w.heap.size + 1, 1, none⟩ = some (.string user) ∧ w'.cell? ⟨w.heap.size + 1, 2, none⟩ = some (.int .i64 id) ∧ w'.cell? ⟨w.heap.size + 1, 3, none⟩ = some (.int .i64 st) ∧ w'.cell? ⟨w.heap.size + 1, 4, none⟩ = some (.int .i64 pr) ∧ w'.cell? ⟨w.heap.size + 1, 5, none⟩ = some (.int .u64 ttl) ∧ w'.cell? ⟨w.heap.size + 1, 6, none⟩ = some (users)) ∧ Kept w2 w') (exact HK.out _ (by assumption)) (first
    | (go_at_call 85; refine (HPU.out _ (by assumption)).mono ?_; rintro e w3 ⟨A3, c3, rfl, sq, K3⟩; have HV := Lib.hid sq; clear sq)
    | (go_at_call 97; refine (HWR.out _ _ _ (by assumption) HV.out).mono ?_; rintro e w4 ⟨A4, c4, rfl, sq, K4⟩; have HL := Lib.hid sq; clear sq))
  have b1 : Below w2.heap.size w2 w4 := K4
  replace HI0 := Lib.hid (HI0.out.below b1 HI0.out.lt)
  replace HI1 := Lib.hid (HI1.out.below b1 HI1.out.lt)
  replace HI2 := Lib.hid (HI2.out.below b1 HI2.out.lt)
  replace H := Lib.hid (H.out.now b1)
  replace HB := Lib.hid (HB.out.trans (b1.mono HB.out.size))
  clear b1 HPU HWR HK K0
  have y1 := HI1.out.cell' (i := 1) rfl
  have y0 := HI0.out.cell' (i := 0) rfl
  go_wp2_with fail
  refine (HBM.out H.out HL.out).mono ?_
  rintro e w5 ⟨p5, A5, c5, rfl, k5, q5, b1⟩
  replace HI0 := Lib.hid (HI0.out.below b1 HI0.out.lt)
  replace HI1 := Lib.hid (HI1.out.below b1 HI1.out.lt)
  replace HI2 := Lib.hid (HI2.out.below b1 HI2.out.lt)
  replace HB := Lib.hid (HB.out.trans (b1.mono HB.out.size))
  have HK5 := Lib.hid ((k5.store (i := 0) HI0.out (by decide) (by decide) (.pointer p5)).store (i := 0) (HI2.out.far (p := ⟨w.heap.size, 0, none⟩) (by simp; omega) (.pointer p5)) (by decide) (by decide) (.pointer p5))
  have HQ5 := Lib.hid ((q5.keeps (Keeps.store (i := 0) HI0.out (by decide) (.pointer p5))).keeps (Keeps.store (i := 0) (HI2.out.far (p := ⟨w.heap.size, 0, none⟩) (by simp; omega) (.pointer p5)) (by decide) (.pointer p5)))
  have HI5 := Lib.hid ((HI2.out.far (p := ⟨w.heap.size, 0, none⟩) (by simp; omega) (.pointer p5)).set 0 (.pointer p5) rfl)
  have HB5 := Lib.hid ((HB.out.setCell (p := ⟨w.heap.size, 0, none⟩) (Nat.le_refl _) (.pointer p5)).setCell (p := ⟨w.heap.size + 1 + 1, 0, none⟩) (by simp; omega) (.pointer p5))
  have z0 := HI0.out.cell' (i := 0) rfl
  have f0 := HI0.out.frozen 0
  have l0 := HI0.out.lt
  have z2 := HI2.out.cell' (i := 0) rfl
  have f2 := HI2.out.frozen 0
  have l2 := HI2.out.lt
  clear k5 q5 b1 y0 y1 H HL HI0 HI1 HI2
  go_wp2_with fail
  generalize (w5.setCell ⟨w.heap.size, 0, none⟩ (.pointer p5)).setCell ⟨w.heap.size + 1 + 1, 0, none⟩ (.pointer p5) = w6 at *
  have n0 := HI5.out.cell' (i := 0) rfl
  exact bodyPost_ret (v := .tuple #[M p5, .slice A5 cs.length c5, .int .i64 er]) (by simp [results, Tryz.results73, go_sem, n0]) rfl ⟨p5, A5, c5, rfl, HK5.out, HQ5.out, HB5.out⟩
end Bk
end Go.Proofs.YtohdlnefgieenaaGreat
/-
  A drawn region inside a round of a range over a function, by what every world on the way holds; a range's fence is wide. General over programs.
-/
namespace Go.Law
open Go.RowKit
/-! ### A drawn region in a round of a range, by what every world on the way holds -/
/-- where it ends, it ends so -/
def Only (G : Act → World → Prop) : Exit → Act → World → Prop
  | .normal, a, w => G a w
  | _, _, _ => False
theorem Only.lets (G : Act → World → Prop) : ¬ LetsOut (Only G) := fun ⟨_, _, h⟩ => h
def noDefer (o : Oper) : Bool := match o.op with
  | .defer _ => false
  | _ => true
theorem uponIn_round {l n : Nat} {P : Program} {o : Oper} {a : Act} {K : Act → World → Prop} {G : Act → World → Prop} {Q : Exit → Act → World → Prop} : ∀ r, o.upon P a K (Only G) r → o.uponIn (Fence.wide.inRound l) n P a K Q r
  | .ok (.value _) _, h => h
  | .ok .skip _, h => h
  | .ok (.defer _) _, h => h
  | .ok (.enter _ _) _, h => ⟨fun h => by simp [Fence.wide] at h, CallsIn.inRound l (callsIn_wide.2 (Calls.mono h fun e w' h' => by cases e with
    | returned v => exact h'
    | panicked c => exact h'.elim
    | outgrown => exact (Only.lets G h').elim))⟩
  | .ok (.row _ _) _, h => ⟨fun h => by simp [Fence.wide] at h, fun c cs _ => let ⟨v, w', r, s⟩ := h c cs; ⟨v, w', r, stepsIn_wide.2 s⟩⟩
  | .halt (.panic _) _, h => h.elim
theorem wpOpIn_round {l n : Nat} {P : Program} {ops : Array Oper} {G : Act → World → Prop} {Q : Exit → Act → World → Prop} {i : Nat} {K K' : Act → World → Prop} {a : Act} {w : World} (hd : ∀ o, ops[i]? = some o → noDefer o = true) (hK : ∀ a w, K a w → K' a w) (h : wpOp P ops (Only G) i K a w) : wpOpIn (Fence.wide.inRound l) n P ops Q i K' a w := by
  unfold wpOp at h
  unfold wpOpIn
  cases ho : ops[i]? with
  | none => rw [ho] at h; exact hK _ _ h
  | some o =>
    rw [ho] at h
    simp only at h ⊢
    split
    · rename_i hw
      rw [if_pos hw] at h
      refine ⟨fun _ _ => trivial, ?_⟩
      rcases h with h | ⟨_, h⟩
      · have hs : Oper.semAt (Fence.wide.inRound l).round a.eval o = execOp a.eval o := Oper.semAt_eq _ _ _ fun c hc => by have := hd o ho; unfold noDefer at this; rw [hc] at this; cases this
        rw [hs]
        refine uponIn_round (G := G) _ ?_
        exact Oper.wp_mono hK h
      · exact (Only.lets G h).elim
    · rename_i hw
      rw [if_neg hw] at h
      exact ⟨fun _ _ => trivial, hK _ _ h⟩
theorem wpAnyIn_round {l n : Nat} {P : Program} {md : Region.Mode} {ops : Array Oper} {S : World → Prop} {G : Act → World → Prop} {Q : Exit → Act → World → Prop} (hd : ∀ (i : Nat) o, ops[i]? = some o → noDefer o = true) (hQ : ∀ a w, G a w → Q .normal a w) : ∀ (fuel : Nat) (listed : Array Bool) (a : Act) (w : World), wpAnyH P md ops (Only G) S fuel listed a w → wpAnyIn (Fence.wide.inRound l) n P md ops Q fuel listed a w
  | 0, _, _, _, h => ⟨h.1, hQ _ _ h.2⟩
  | fuel + 1, _, _, _, h => ⟨fun h0 => hQ _ _ (h.1 h0), fun i hi => wpOpIn_round (hd i) (fun _ _ h' => wpAnyIn_round hd hQ fuel _ _ _ h'.2) (h.2 i hi)⟩
theorem wpIn_round_held {l n id : Nat} {P : Program} {ops : Array Oper} {S : World → Prop} {Q : Exit → Act → World → Prop} {a : Act} {w : World} (G : Act → World → Prop) (hm : P.follows .mixedOrders = true) (hd : ops.all noDefer = true) (hS : S w.drew)
    (h : S w.drew → wpAnyH P .any ops (Only G) S ops.size (Array.replicate ops.size false) a w.drew) (hQ : ∀ a w, G a w → Q .normal a w) : (Code.region id ops true).wpIn (Fence.wide.inRound l) n P Q a w :=
  wpIn_region_any hm (wpAnyIn_round (fun i o ho => by
    obtain ⟨hi, e⟩ := Array.getElem?_eq_some_iff.1 ho
    rw [← e]
    exact (Array.all_eq_true.1 hd) i hi) hQ _ _ _ _ (h hS))
/-- append(s, x...) inside a fence; x may be nil -/
theorem wpListIn_append_seq {F : Fence} {n : Nat} {P : Program} (w : World) (base : Nat) (t : TypeId) {e : TypeId} {i : TypeInfo} {z : Value} {size bytes : Nat} {ops : Array Oper} {rest : List Oper} {o : Oper} {a : Act} {Q : Exit → Act → World → Prop} (hgd : o.guard = none) (s x : Operand)
    (ho : o.op = .call { callee := .builtin .append, args := #[s, x], argTypes := #[t, t] }) (E : Elem P t e i z size bytes)
    (v : Value) (k : Nat) (xs : List Value) (hs : a.eval s = v) (hown : w.ownsRow base e size v k xs)
    (lo B : Nat) (A : Option Addr) (m c : Nat) (news : List Value) (hx : a.eval x = .slice A m c) (hl : news.length = m * size) (hr : Seq w lo B A news) (h1 : ∀ u ∈ news, u.oneCell' = true)
    (h63 : k + m ≤ maxLen) (hbytes : (k + m) * bytes ≤ 140737488355328) (hbase : base ≤ w.heap.size)
    (h : ∀ v' w', w'.ownsRow base e size v' (k + m) (xs ++ news) → w.grownBy w' v.ownBlock → wpListIn F n P ops Q rest (a.put o.dst v') w') : wpListIn F n P ops Q (o :: rest) a w := by
  obtain ⟨v', w', hrun, h2, h3⟩ := run_append_seq w base t E o.type v k xs hown lo B A m c news hl hr h1 h63 hbytes hbase
  refine wpListIn_plain hgd fun K hK => ⟨?_, ?_⟩
  · simp [Oper.about, ho, resolve, Target.leads, Sem.run_pure]
  · rw [Oper.semAt_plain F _ _ (by rw [ho]; intro c hc; cases hc)]
    simp [execOp, ho, resolve, invoke, builtin, hs, hx, hrun, Result.andThen]
    exact hK _ _ (h v' w' h2 h3)
theorem KeepsOthers.of_below {w w' : World} (hb : Below w.heap.size w w') : KeepsOthers w w' := ⟨hb.size, fun k _ hk _ => (hb.block k (Array.getElem?_eq_some_iff.1 hk).1).trans hk⟩
theorem KeepsOthers.grown {w w' : World} {base size n : Nat} {e : TypeId} {v : Value} {xs : List Value} (h : w.ownsRow base e size v n xs) (hg : w.grownBy w' v.ownBlock) : KeepsOthers w w' :=
  ⟨hg.size, fun k o hk ho => (hg.block k (Array.getElem?_eq_some_iff.1 hk).1 fun e' => by
    rcases h.2 with ⟨rfl, _⟩ | ⟨g, cap, cur, rfl, _, hh, _⟩
    · cases e'
    · have : k = g := by simpa [Value.ownBlock] using e'
      subst this
      rw [hh] at hk
      cases hk
      cases ho).trans hk⟩
end Go.Law
