/-
  The calls of layer 6, and the reference's, in one form: a list, an error's number, where it lies; a copy of a list onto an empty one.
-/
import Derived.Test.YtohdlnefgieenaaGreatJ9
import Derived.Test.YtohdlnefgieenaaGreatRows
import Derived.Test.YtohdlnefgieenaaGreatJ4
import Derived.WalkKit
import Derived.WalkSpells
import Derived.WalkLawsBesides
import Derived.Test.YtohdlnefgieenaaGreatJ3
import Derived.Test.YtohdlnefgieenaaGreatJ6
import Derived.Test.YtohdlnefgieenaaGreatJ7
import Derived.Deep.RegionHeld3
import Derived.Lib.QuietBelow
namespace Go.Law
open Go.RowKit
theorem Turned.refl (w : World) (g : Nat) : Turned w w g := ⟨rfl, rfl, rfl, rfl, fun _ _ => rfl⟩
theorem Turned.store {w w' : World} {g : Nat} (h : Turned w w' g) (i : Nat) (u : Value) : Turned w (w'.setCell ⟨g, i, none⟩ u) g :=
  ⟨h.os, h.tape, h.output, by simpa using h.size, fun k hk => (Below.heap_setCell w' ⟨g, i, none⟩ u k hk).trans (h.block k hk)⟩
theorem Turned.seq {w w' : World} {g lo B : Nat} {A : Option Addr} {xs : List Value} (h : Turned w w' g) (hs : Seq w lo B A xs) (hg : g < lo ∨ B ≤ g) : Seq w' lo B A xs :=
  hs.keep fun p h1 h2 => h.cell (by omega)
/-- what Set makes of a list -/
def SetTo (s : Sn) (most : Int) (us ls : List Sn) (er : Int) : Prop :=
  (hasS s.1 us = true ∧ ls = put s us ∧ er = 0) ∨ (hasS s.1 us = false ∧ most ≤ (us.length : Int) ∧ ls = us ∧ er = 2) ∨ (hasS s.1 us = false ∧ (us.length : Int) < most ∧ ls = put s us ∧ er = 0)
theorem SetTo.ex (s : Sn) (most : Int) (us : List Sn) : ∃ ls er, SetTo s most us ls er ∧ ls.length ≤ us.length + 1 := by
  have := put_le s us
  cases h : hasS s.1 us with
  | true => exact ⟨_, _, .inl ⟨h, rfl, rfl⟩, this⟩
  | false =>
    by_cases hm : most ≤ (us.length : Int)
    · exact ⟨_, _, .inr (.inl ⟨h, hm, rfl, rfl⟩), by omega⟩
    · exact ⟨_, _, .inr (.inr ⟨h, by omega, rfl, rfl⟩), this⟩
/-- what Beat makes of a list -/
def BeatTo (k u : Int) (us ls : List Sn) (er : Int) : Prop := (hasS k us = true ∧ ls = beatS k u us ∧ er = 0) ∨ (hasS k us = false ∧ ls = us ∧ er = 3)
theorem BeatTo.ex (k u : Int) (us : List Sn) : ∃ ls er, BeatTo k u us ls er ∧ ls.length = us.length := by
  cases h : hasS k us with
  | true => exact ⟨_, _, .inl ⟨h, rfl, rfl⟩, beat_length k u us⟩
  | false => exact ⟨_, _, .inr ⟨h, rfl, rfl⟩, rfl⟩
end Go.Law
namespace Go.Proofs.YtohdlnefgieenaaGreat
open Go.RowKit
namespace Sess
open Go.Law
/-- behind a call: this list lies there, this is the error's number, nothing old has turned -/
def Gives (w : World) (ls : List Sn) (er : Int) (e : Ending) (w' : World) : Prop := ∃ A c, e = .returned (.tuple #[.slice A ls.length c, .int .i64 er]) ∧ Seq w' 0 w'.heap.size A (flatS ls) ∧ Below w.heap.size w w'
def Lies (w : World) (ls : List Sn) (e : Ending) (w' : World) : Prop := ∃ A c, e = .returned (.slice A ls.length c) ∧ Seq w' 0 w'.heap.size A (flatS ls) ∧ Below w.heap.size w w'
theorem Listed2.gives {w : World} {ls : List Sn} {er : Int} {e : Ending} {w' : World} (h : Listed2 w ls er e w') : Gives w ls er e w' := by
  obtain ⟨A, c, he, hr, hb⟩ := h
  exact ⟨A, c, he, (Seq.own hr).from_ (Nat.zero_le _), hb⟩
theorem Listed.lies {w : World} {ls : List Sn} {e : Ending} {w' : World} (h : Listed w w.heap.size ls e w') : Lies w ls e w' := by
  obtain ⟨A, c, he, hr, hb⟩ := h
  exact ⟨A, c, he, (Seq.own hr).from_ (Nat.zero_le _), hb⟩
section
variable {us ls : List Sn} {A : Option Addr} {c : Nat} {w : World} {er : Int}
theorem setG {s : Sn} {most : Int} (h : SetTo s most us ls er) (hs : Seq w 0 w.heap.size A (flatS us)) (hl : us.length ≤ 900) (hu : Up us) : Calls Tryz.prog 112 #[.slice A us.length c, V s, .int .i64 most] w (Gives w ls er) := by
  rcases h with ⟨h, rfl, rfl⟩ | ⟨h, hm, rfl, rfl⟩ | ⟨h, hm, rfl, rfl⟩
  · exact (setOver s most us A c w hs hl hu h).mono fun _ _ h => h.gives
  · exact (setFull s most _ A c w hs hl h hm).mono fun _ _ h => h.gives
  · exact (setNew s most us A c w hs hl h hm).mono fun _ _ h => h.gives
theorem refSetG {s : Sn} {most : Int} (h : SetTo s most us ls er) (hs : Seq w 0 w.heap.size A (flatS us)) (hl : us.length ≤ 900) (hu : Up us) : Calls Tryz.prog 63 #[.slice A us.length c, V s, .int .i64 most] w (Gives w ls er) := by
  rcases h with ⟨h, rfl, rfl⟩ | ⟨h, hm, rfl, rfl⟩ | ⟨h, hm, rfl, rfl⟩
  · exact (refSetPut s most us A c w hs hl hu true h (.inl rfl)).mono fun _ _ h => h.gives
  · exact (refSetFull s most _ A c w hs hl h hm).mono fun _ _ h => ⟨A, c, h.1, (hs.below h.2).more h.2.size, h.2⟩
  · exact (refSetPut s most us A c w hs hl hu false h (.inr hm)).mono fun _ _ h => h.gives
theorem beatG {k u : Int} (h : BeatTo k u us ls er) (hs : Seq w 0 w.heap.size A (flatS us)) (hl : us.length ≤ 900) (hu : Up us) : Calls Tryz.prog 113 #[.slice A us.length c, .int .i64 k, .int .u64 u] w (Gives w ls er) := by
  rcases h with ⟨h, rfl, rfl⟩ | ⟨h, rfl, rfl⟩
  · exact (beatOne k u us A c w hs hl hu h).mono fun _ _ h => h.gives
  · exact (beatNo k u _ A c w hs hl h).mono fun _ _ h => h.gives
theorem refBeatG {k u : Int} (h : BeatTo k u us ls er) (hs : Seq w 0 w.heap.size A (flatS us)) (hl : us.length ≤ 900) : Calls Tryz.prog 64 #[.slice A us.length c, .int .i64 k, .int .u64 u] w (Gives w ls er) := by
  rcases h with ⟨h, rfl, rfl⟩ | ⟨h, rfl, rfl⟩
  · exact (refBeatOne k u us A c w hs hl h).mono fun _ _ h => h.gives
  · exact (refBeatNo k u _ A c w hs hl h).mono fun _ _ h => ⟨A, c, h.1, (hs.below h.2).more h.2.size, h.2⟩
theorem clearG {k : Int} (b : Bool) (hb : hasS k us = b) (her : er = if b then 0 else 3) (hs : Seq w 0 w.heap.size A (flatS us)) (hl : us.length ≤ 900) (hu : Up us) : Calls Tryz.prog 114 #[.slice A us.length c, .int .i64 k] w (Gives w (out k us) er) := by
  subst her
  cases b
  · rw [out_none hb]; exact (clearNo k us A c w hs hl hb).mono fun _ _ h => h.gives
  · exact (clearOne k us A c w hs hl hu hb).mono fun _ _ h => h.gives
theorem purgeG {now : Int} (hs : Seq w 0 w.heap.size A (flatS us)) (hl : us.length ≤ 900) : Calls Tryz.prog 85 #[.slice A us.length c, .int .u64 now] w (Lies w (live now us)) := (purge now us A c w hs hl).mono fun _ _ h => h.lies
theorem refPurgeG {now : Int} (hs : Seq w 0 w.heap.size A (flatS us)) (hl : us.length ≤ 900) : Calls Tryz.prog 59 #[.slice A us.length c, .int .u64 now] w (Lies w (live now us)) := (refPurge now us A c w hs hl).mono fun _ _ h => h.lies
theorem refClearG {k : Int} (hs : Seq w 0 w.heap.size A (flatS us)) (hl : us.length ≤ 900) : Calls Tryz.prog 66 #[.slice A us.length c, .int .i64 k] w (Lies w (out k us)) := (refClear k us A c w hs hl).mono fun _ _ h => h.lies
theorem setE {s : Sn} {most : Int} (h : hasS s.1 us = true ∨ (us.length : Int) < most) (e : put s us = ls) (hs : Seq w 0 w.heap.size A (flatS us)) (hl : us.length ≤ 900) (hu : Up us) : Calls Tryz.prog 112 #[.slice A us.length c, V s, .int .i64 most] w (Gives w ls 0) := by
  subst e
  cases hh : hasS s.1 us with
  | true => exact (setOver s most us A c w hs hl hu hh).mono fun _ _ h => h.gives
  | false =>
    refine (setNew s most us A c w hs hl hh ?_).mono fun _ _ h => h.gives
    rcases h with h | h
    · rw [hh] at h; cases h
    · exact h
theorem beatE {k u : Int} (h : hasS k us = true) (e : beatS k u us = ls) (hs : Seq w 0 w.heap.size A (flatS us)) (hl : us.length ≤ 900) (hu : Up us) : Calls Tryz.prog 113 #[.slice A us.length c, .int .i64 k, .int .u64 u] w (Gives w ls 0) := by
  subst e
  exact (beatOne k u us A c w hs hl hu h).mono fun _ _ h => h.gives
theorem clearE {k : Int} (h : hasS k us = true) (e : out k us = ls) (hs : Seq w 0 w.heap.size A (flatS us)) (hl : us.length ≤ 900) (hu : Up us) : Calls Tryz.prog 114 #[.slice A us.length c, .int .i64 k] w (Gives w ls 0) := by
  subst e
  exact (clearOne k us A c w hs hl hu h).mono fun _ _ h => h.gives
theorem clearN {k : Int} (h : hasS k us = false) (hs : Seq w 0 w.heap.size A (flatS us)) (hl : us.length ≤ 900) : Calls Tryz.prog 114 #[.slice A us.length c, .int .i64 k] w (Gives w us 3) :=
  (clearNo k us A c w hs hl h).mono fun _ _ h => h.gives
theorem purgeE {now : Int} (e : live now us = ls) (hs : Seq w 0 w.heap.size A (flatS us)) (hl : us.length ≤ 900) : Calls Tryz.prog 85 #[.slice A us.length c, .int .u64 now] w (Lies w ls) := by
  subst e
  exact purgeG hs hl
end
end Sess
end Go.Proofs.YtohdlnefgieenaaGreat
/-
  What each call of layer 1 (tick), the reference's Add, and the statements' example come to.
-/
namespace Go.Proofs.YtohdlnefgieenaaGreat
open Go.RowKit
namespace Tick
open Door

theorem wrap_add (a b : Int) (ha : U a) (hb : U b) : (IntKind.u64.wrap (a + b) < a → sat a b = top) ∧ (a ≤ IntKind.u64.wrap (a + b) → IntKind.u64.wrap (a + b) = sat a b) := by
  unfold U at *; unfold sat
  rw [IntKind.wrap_u64]
  unfold top at *
  constructor
  · intro h; rw [if_neg (by omega)]
  · intro h; rw [if_pos (by omega)]; omega
theorem wrap_left (a b : Int) (ha : U a) (hb : U b) : (IntKind.u64.wrap (18446744073709551615 - a) < b → sat a b = top) ∧ (b ≤ IntKind.u64.wrap (18446744073709551615 - a) → IntKind.u64.wrap (a + b) = sat a b) := by
  unfold U at *; unfold sat
  rw [IntKind.wrap_u64, IntKind.wrap_u64]
  unfold top at *
  constructor
  · intro h; rw [if_neg (by omega)]
  · intro h; rw [if_pos (by omega)]; omega
theorem ret_u64 {a b : Int} (h : a = b) : Ending.returned (.int .u64 a) = .returned (.int .u64 b) := by rw [h]

set_option maxHeartbeats 400000 in
theorem late (a b : Int) (w : World) :
    Calls Tryz.prog 107 #[.int .u64 a, .int .u64 b] w fun e w' => e = .returned (.bool (decide (b ≤ a))) ∧ w = w' := by
  go_enter Tryz.func107, Tryz.ntmps107
  go_wp2
  go_ret
  exact ⟨rfl, rfl⟩
set_option maxHeartbeats 400000 in
theorem add (a b : Int) (ha : U a) (hb : U b) (w : World) :
    Calls Tryz.prog 82 #[.int .u64 a, .int .u64 b] w fun e w' => e = .returned (.int .u64 (sat a b)) ∧ w = w' := by
  go_enter Tryz.func82, Tryz.ntmps82
  go_wp2
  all_goals go_ret
  · exact ⟨ret_u64 ((wrap_add a b ha hb).1 (by assumption)).symm, rfl⟩
  · exact ⟨ret_u64 ((wrap_add a b ha hb).2 (by assumption)), rfl⟩
set_option maxHeartbeats 400000 in
theorem refAdd (a b : Int) (ha : U a) (hb : U b) (w : World) :
    Calls Tryz.prog 27 #[.int .u64 a, .int .u64 b] w fun e w' => e = .returned (.int .u64 (sat a b)) ∧ w = w' := by
  go_enter Tryz.func27, Tryz.ntmps27
  go_wp2
  all_goals go_ret
  · exact ⟨ret_u64 ((wrap_left a b ha hb).1 (by assumption)).symm, rfl⟩
  · exact ⟨ret_u64 ((wrap_left a b ha hb).2 (by assumption)), rfl⟩
/-- a time, as a value -/
abbrev T (n s : Int) (c : Bool) : Value := .agg #[.int .u64 n, .int .u64 s, .bool c]
/-- a time's three cells -/
abbrev C (n s : Int) (c : Bool) : Obj := .cells #[.int .u64 n, .int .u64 s, .bool c] 50
set_option maxHeartbeats 400000 in
theorem pass (n s : Int) (c : Bool) (b : Int) (hn : U n) (hb : U b) (w : World) :
    Calls Tryz.prog 54 #[T n s c, .int .u64 b] w fun e w' => e = .returned (T (sat n b) s c) ∧ (w.alloc (C (sat n b) s c)).alloc (C (sat n b) s c) = w' := by
  go_enter Tryz.func54, Tryz.ntmps54
  go_wp2_with (go_at_call 82; refine (add _ _ hn hb _).mono ?_; rintro e w' ⟨rfl, rfl⟩)
  exact bodyPost_ret (v := T (sat n b) s c) (by simp [results, Tryz.results54, go_sem]) rfl ⟨rfl, rfl⟩
set_option maxHeartbeats 400000 in
theorem take (n s : Int) (c : Bool) (hs : U s) (w : World) :
    Calls Tryz.prog 83 #[T n s c] w fun e w' => e = .returned (.tuple #[T n (sat s 1) c, .int .u64 (sat s 1)]) ∧ ((w.alloc (C n (sat s 1) c)).alloc (C n (sat s 1) c)).drew = w' := by
  go_enter Tryz.func83, Tryz.ntmps83
  go_wp2_with (go_at_call 82; refine (add _ _ hs U1 _).mono ?_; rintro e w' ⟨rfl, rfl⟩)
  go_region
  go_wp2
  exact bodyPost_ret (v := .tuple #[T n (sat s 1) c, .int .u64 (sat s 1)]) (by simp [results, Tryz.results83, go_sem]) rfl ⟨rfl, rfl⟩
set_option maxHeartbeats 400000 in
theorem shut (n s : Int) (c : Bool) (w : World) :
    Calls Tryz.prog 52 #[T n s c] w fun e w' => e = .returned (T n s true) ∧ (w.alloc (C n s true)).alloc (C n s true) = w' := by
  go_enter Tryz.func52, Tryz.ntmps52
  go_wp2
  exact bodyPost_ret (v := T n s true) (by simp [results, Tryz.results52, go_sem]) rfl ⟨rfl, rfl⟩
end Tick
end Go.Proofs.YtohdlnefgieenaaGreat
/-
  What the calls of layer 8 (book) come to: Get of a book, become, Presence.
-/
namespace Go.Proofs.YtohdlnefgieenaaGreat
open Go.RowKit
namespace Bk
open Go.Law Go.Proofs.YtohdlnefgieenaaGreat.OmapB
/-- at p lies a book -/
def Booked (w : World) (p : Option Addr) (b : List (ByteArray × En)) : Prop := ∃ xs, At w w.heap.size p xs ∧ (∀ q ∈ xs, q.2.In 138 w) ∧ mapV EnV.en xs = b
/-- nodes and sessions lie as they lay -/
structure Calm (w w' : World) : Prop where
  node : Keeps 168 w w'
  ses : Keeps 138 w w'
section
variable {w w' w'' : World} {p : Option Addr} {b : List (ByteArray × En)}
theorem Calm.of_below (hb : Below w.heap.size w w') : Calm w w' := ⟨Keeps.of_below hb, Keeps.of_below hb⟩
theorem Calm.refl (w : World) : Calm w w := ⟨Keeps.refl _ _, Keeps.refl _ _⟩
theorem Calm.trans (h : Calm w w') (h' : Calm w' w'') : Calm w w'' := ⟨h.node.trans h'.node, h.ses.trans h'.ses⟩
theorem Calm.store {g i : Nat} {t' : TypeId} {cs : Array Value} (hg : Is w g t' cs) (h1 : 168 ≠ t') (h2 : 138 ≠ t') (u : Value) : Calm w (w.setCell ⟨g, i, none⟩ u) := ⟨Keeps.store hg h1 u, Keeps.store hg h2 u⟩
theorem Calm.grown {e : TypeId} {base size n : Nat} {v : Value} {xs : List Value} (h : w.ownsRow base e size v n xs) (hg : w.grownBy w' v.ownBlock) (h1 : e ≠ 168) (h2 : e ≠ 138) : Calm w w' := ⟨Keeps.grown h hg h1, Keeps.grown h hg h2⟩
theorem Booked.calm (h : Booked w p b) (hc : Calm w w') : Booked w' p b := by
  obtain ⟨xs, h1, h2, h3⟩ := h
  exact ⟨xs, (h1.keeps hc.node).wide hc.node.size, fun q hq => (h2 q hq).keeps hc.ses, h3⟩
theorem Booked.nil (w : World) : Booked w none [] := ⟨[], .nil, (fun _ h => by cases h), rfl⟩
theorem Booked.now (h : Booked w p b) (hb : Below w.heap.size w w') : Booked w' p b := h.calm (Calm.of_below hb)
theorem Booked.store (h : Booked w p b) {g i : Nat} {t' : TypeId} {cs : Array Value} (hg : Is w g t' cs) (h1 : 168 ≠ t') (h2 : 138 ≠ t') (u : Value) : Booked (w.setCell ⟨g, i, none⟩ u) p b := h.calm (Calm.store hg h1 h2 u)
end
theorem get (k : ByteArray) {w : World} {p : Option Addr} {b : List (ByteArray × En)} {ss : List Sn} {t0 t1 t2 : Int} {r : Bool} (hss : sesK k b = ss) (ht : toldK k b = (t0, t1, t2)) (hr : (getK k b).isSome = r) (h : Booked w p b) (hR : Rises lt b) :
    Calls Tryz.prog 67 #[M p, .string k] w fun e w' => ∃ A c, e = .returned (.tuple #[.agg #[.slice A ss.length c, .int .i64 t0, .int .i64 t1, .int .i64 t2], .bool r]) ∧ Lain 138 w' A (flatS ss) ∧ Below w.heap.size w w' := by
  obtain ⟨xs, h1, h2, rfl⟩ := h
  refine (OmapB.get k h1 (Nat.le_refl _) ((mapV_rises lt).1 hR)).mono ?_
  rintro e w' ⟨rfl, hb⟩
  have e1 := get_ses (xs := xs) k
  have e2 := get_told (xs := xs) k
  have e3 := get_in (w := w) k h2
  have e4 : (getK k xs).isSome = r := by rw [← hr, mapV_get]; simp
  rw [hss] at e1
  rw [ht] at e2
  generalize (getK k xs).getD EnV.zero = v at *
  injection e2 with f0 f1
  injection f1 with f1 f2
  refine ⟨v.A, v.c, ?_, ?_, hb⟩
  · rw [e4, EnV.val, e3.1, e1, f0, f1, f2]
  · rw [← e1]; exact e3.2.now hb
theorem ofP {now : Int} {zs : List Sn} {s0 s1 s2 : Int} (hp : presS now zs = (s0, s1, s2)) {A : Option Addr} {c : Nat} {w : World} (hs : Seq w 0 w.heap.size A (flatS zs)) (hl : zs.length ≤ 900) :
    Calls Tryz.prog 68 #[.slice A zs.length c, .int .u64 now] w fun e w' => e = .returned (.agg #[.int .i64 s0, .int .i64 s1, .int .i64 s2]) ∧ Below w.heap.size w w' := by
  refine (Aggr.of_ now zs A c w hs (by unfold maxLen; omega)).mono fun e w' ⟨h1, h2⟩ => ⟨?_, h2⟩
  rw [h1]
  unfold presS at hp
  injection hp with f0 f1
  injection f1 with f1 f2
  rw [Aggr.PV, f0, f1, f2]
/-- behind what makes a book of another, and tells -/
def Told (w : World) (b : List (ByteArray × En)) (cs : List Ch) (e : Ending) (w' : World) : Prop := ∃ p A c, e = .returned (.tuple #[M p, .slice A cs.length c]) ∧ Booked w' p b ∧ Lain 185 w' A (flatC cs) ∧ Below w.heap.size w w'

set_option maxRecDepth 100000 in
set_option maxHeartbeats 8000000 in
theorem become_ (u : ByteArray) (ss : List Sn) (now : Int) {w : World} {p A : Option Addr} {c : Nat} {b : List (ByteArray × En)} (h : Booked w p b) (hR : Rises lt b) (hs : Lain 138 w A (flatS ss)) (hl : ss.length ≤ 900) (hn : b.length ≤ 900) :
    Calls Tryz.prog 84 #[M p, .string u, .slice A ss.length c, .int .u64 now] w (Told w (become lt u ss now b) (tells u ss now b)) := by
  obtain ⟨t0, t1, t2, ht⟩ : ∃ t0 t1 t2, toldK u b = (t0, t1, t2) := ⟨_, _, _, rfl⟩
  obtain ⟨s0, s1, s2, hp⟩ : ∃ s0 s1 s2, presS now ss = (s0, s1, s2) := ⟨_, _, _, rfl⟩
  have H := Lib.hid h
  obtain ⟨xs, hx1, hx2, hx3⟩ := h
  have HX := Lib.hid hx1
  have HIN := Lib.hid hx2
  have HM := Lib.hid hx3
  have hxn : xs.length ≤ 900 := by rw [← hx3, mapV_length] at hn; exact hn
  have HXR : Hid (Rises lt xs) := (mapV_rises lt (f := EnV.en)).1 (by rw [hx3]; exact hR)
  have HR := Lib.hid hR
  have HS := Lib.hid hs
  have HSO := Lib.hid hs
  have HT := Lib.hid ht
  have HP := Lib.hid hp
  have HEQ : Hid (tells u ss now b = if (s0, s1, s2) = (t0, t1, t2) then [] else [(u, (t0, t1, t2), (s0, s1, s2))]) := by show _ = _; unfold tells; rw [hp, ht]
  have HBE : Hid (become lt u ss now b = if ss = [] then outK u b else putK lt u (ss, s0, s1, s2) b) := by show _ = _; unfold become; rw [hp]
  clear hR hs ht hp hx1 hx2 hx3 hn
  have I0 : Is ((w.alloc (.cells #[.pointer p] 72)).alloc (.cells #[.pointer none] 72)) w.heap.size 72 #[.pointer p] := (Is.new w _ _ rfl).alloc _
  have I1 : Is ((w.alloc (.cells #[.pointer p] 72)).alloc (.cells #[.pointer none] 72)) (w.heap.size + 1) 72 #[.pointer none] := Is.new _ _ _ (by simp)
  have b0 : Below w.heap.size w ((w.alloc (.cells #[.pointer p] 72)).alloc (.cells #[.pointer none] 72)) := ((Below.refl _ w).alloc (Nat.le_refl _) _).alloc (by simp) _
  have HI0 := Lib.hid I0
  have HI1 := Lib.hid I1
  have HB := Lib.hid b0
  replace H := Lib.hid (H.out.now b0)
  replace HS := Lib.hid (HS.out.now b0)
  replace HX := Lib.hid ((HX.out.under b0).wide b0.size)
  clear I0 I1 b0
  go_enter Tryz.func84, Tryz.ntmps84
  go_wp2_with fail
  generalize ((w.alloc (.cells #[.pointer p] 72)).alloc (.cells #[.pointer none] 72)) = w0 at *
  refine (get u rfl HT.out rfl H.out HR.out).mono ?_
  rintro e w1 ⟨A1, c1, rfl, _, b1⟩
  replace HI0 := Lib.hid (HI0.out.below b1 HI0.out.lt)
  replace HI1 := Lib.hid (HI1.out.below b1 HI1.out.lt)
  replace HS := Lib.hid (HS.out.now b1)
  replace HX := Lib.hid ((HX.out.under b1).wide b1.size)
  replace HB := Lib.hid (HB.out.trans (b1.mono HB.out.size))
  clear b1 H
  have i0 := HI0.out.cell' (i := 0) rfl
  go_wp2_with fail
  have HI2 := Lib.hid (Is.new w1 145 #[.slice A1 (sesK u b).length c1, .int .i64 t0, .int .i64 t1, .int .i64 t2] rfl)
  have bx := (Below.refl w1.heap.size w1).alloc (Nat.le_refl _) (.cells #[.slice A1 (sesK u b).length c1, .int .i64 t0, .int .i64 t1, .int .i64 t2] 145)
  replace HI0 := Lib.hid (HI0.out.below bx HI0.out.lt)
  replace HI1 := Lib.hid (HI1.out.below bx HI1.out.lt)
  replace HS := Lib.hid (HS.out.now bx)
  replace HX := Lib.hid ((HX.out.under bx).wide bx.size)
  replace HB := Lib.hid (HB.out.trans (bx.mono HB.out.size))
  generalize w1.alloc (.cells #[.slice A1 (sesK u b).length c1, .int .i64 t0, .int .i64 t1, .int .i64 t2] 145) = w2 at *
  clear bx
  refine (ofP HP.out HS.out.seq hl).mono ?_
  rintro e w3 ⟨rfl, b1⟩
  replace HI0 := Lib.hid (HI0.out.below b1 HI0.out.lt)
  replace HI1 := Lib.hid (HI1.out.below b1 HI1.out.lt)
  replace HI2 := Lib.hid (HI2.out.below b1 HI2.out.lt)
  replace HX := Lib.hid ((HX.out.under b1).wide b1.size)
  replace HB := Lib.hid (HB.out.trans (b1.mono HB.out.size))
  clear b1 HS i0
  have k1 := HI2.out.cell' (i := 1) rfl
  have k2 := HI2.out.cell' (i := 2) rfl
  have k3 := HI2.out.cell' (i := 3) rfl
  have l2 := HI2.out.lt
  have j0 := HI0.out.cell' (i := 0) rfl
  have l0 := HI0.out.lt
  by_cases q0 : s0 = t0
  · by_cases q1 : s1 = t1
    · by_cases q2 : s2 = t2
      · have e1 : (s0 == t0) = true := by simpa using q0
        have e2 : (s1 == t1) = true := by simpa using q1
        have e3 : (s2 == t2) = true := by simpa using q2
        have HE : Hid (tells u ss now b = []) := by show _ = _; rw [HEQ.out, if_pos (by rw [q0, q1, q2])]
        by_cases qe : ss = []
        · have HF : Hid (become lt u ss now b = outK u b) := by show _ = _; rw [HBE.out, if_pos qe]
          have e4 : ((ss.length : Int) == 0) = true := by subst qe; rfl
          clear qe
          clear q0 q1 q2
          go_wp2_with fail
          have b1 := (Below.refl w3.heap.size w3).alloc (Nat.le_refl _) (.cells #[.int .i64 s0, .int .i64 s1, .int .i64 s2] 57)
          have hg : w.heap.size + 1 < w3.heap.size := HI1.out.lt
          replace HI1 := Lib.hid (HI1.out.below b1 HI1.out.lt)
          replace HX := Lib.hid ((HX.out.under b1).wide b1.size)
          replace HB := Lib.hid (HB.out.trans (b1.mono HB.out.size))
          clear b1
          generalize w3.alloc (.cells #[.int .i64 s0, .int .i64 s1, .int .i64 s2] 57) = w4 at *
          refine (withoutM u HX.out (Nat.le_refl _) HXR.out (by omega)).mono ?_
          rintro e w5 ⟨p5, rfl, t5, b1⟩
          replace HI1 := Lib.hid (HI1.out.below b1 HI1.out.lt)
          replace HB := Lib.hid (HB.out.trans (b1.mono HB.out.size))
          have HX5 := Lib.hid (t5.far (i := 0) HI1.out (by decide) (.pointer p5))
          have HB5 := Lib.hid (HB.out.setCell (p := ⟨w.heap.size + 1, 0, none⟩) (Nat.le_succ _) (.pointer p5))
          have HI5 := Lib.hid (HI1.out.set 0 (.pointer p5) rfl)
          have l1 := HI1.out.lt
          have f1 := HI1.out.frozen 0
          have m1 := HI1.out.cell' (i := 0) rfl
          clear t5 b1 k1 k2 k3 l2 j0 l0 HX
          go_wp2_with fail
          have e9 : w5.heap.size = (w5.setCell ⟨w.heap.size + 1, 0, none⟩ (.pointer p5)).heap.size := by simp
          rw [e9] at HX5
          clear e9 m1 f1 l1
          generalize w5.setCell ⟨w.heap.size + 1, 0, none⟩ (.pointer p5) = w6 at *
          have c6 := HI5.out.cell' (i := 0) rfl
          refine bodyPost_ret (v := .tuple #[M p5, .slice none 0 0]) (by simp [results, Tryz.results84, go_sem, c6]) rfl ?_
          rw [HE.out, HF.out]
          refine ⟨p5, none, 0, rfl, ⟨_, HX5.out, ?_, ?_⟩, Lain.nil, HB5.out⟩
          · exact fun q hq => (HIN.out q (List.mem_filter.1 hq).1).keeps (Keeps.of_below HB5.out)
          · rw [mapV_out, HM.out]
        · have HF : Hid (become lt u ss now b = putK lt u (ss, s0, s1, s2) b) := by show _ = _; rw [HBE.out, if_neg qe]
          have e4 : ((ss.length : Int) == 0) = false := by have := List.length_pos_iff.2 qe; simp; omega
          clear q0 q1 q2
          go_wp2_with fail
          have b1 := (Below.refl w3.heap.size w3).alloc (Nat.le_refl _) (.cells #[.int .i64 s0, .int .i64 s1, .int .i64 s2] 57)
          have hg : w.heap.size + 1 < w3.heap.size := HI1.out.lt
          replace HI1 := Lib.hid (HI1.out.below b1 HI1.out.lt)
          replace HX := Lib.hid ((HX.out.under b1).wide b1.size)
          replace HB := Lib.hid (HB.out.trans (b1.mono HB.out.size))
          clear b1
          generalize w3.alloc (.cells #[.int .i64 s0, .int .i64 s1, .int .i64 s2] 57) = w4 at *
          refine (withM u (EnV.mk A ss.length c s0 s1 s2 ss) HX.out (Nat.le_refl _) HXR.out (by omega)).mono ?_
          rintro e w5 ⟨p5, rfl, t5, b1⟩
          replace HI1 := Lib.hid (HI1.out.below b1 HI1.out.lt)
          replace HB := Lib.hid (HB.out.trans (b1.mono HB.out.size))
          have HX5 := Lib.hid (t5.far (i := 0) HI1.out (by decide) (.pointer p5))
          have HB5 := Lib.hid (HB.out.setCell (p := ⟨w.heap.size + 1, 0, none⟩) (Nat.le_succ _) (.pointer p5))
          have HI5 := Lib.hid (HI1.out.set 0 (.pointer p5) rfl)
          have l1 := HI1.out.lt
          have f1 := HI1.out.frozen 0
          have m1 := HI1.out.cell' (i := 0) rfl
          clear t5 b1 k1 k2 k3 l2 j0 l0 HX
          go_wp2_with fail
          have e9 : w5.heap.size = (w5.setCell ⟨w.heap.size + 1, 0, none⟩ (.pointer p5)).heap.size := by simp
          rw [e9] at HX5
          clear e9 m1 f1 l1
          generalize w5.setCell ⟨w.heap.size + 1, 0, none⟩ (.pointer p5) = w6 at *
          have c6 := HI5.out.cell' (i := 0) rfl
          refine bodyPost_ret (v := .tuple #[M p5, .slice none 0 0]) (by simp [results, Tryz.results84, go_sem, c6]) rfl ?_
          rw [HE.out, HF.out]
          refine ⟨p5, none, 0, rfl, ⟨_, HX5.out, ?_, ?_⟩, Lain.nil, HB5.out⟩
          · intro q hq
            rcases putK_mem lt hq with rfl | hq
            · exact ⟨rfl, HSO.out.now HB5.out⟩
            · exact (HIN.out q hq).keeps (Keeps.of_below HB5.out)
          · rw [mapV_put, HM.out]; rfl
      · have e1 : (s0 == t0) = true := by simpa using q0
        have e2 : (s1 == t1) = true := by simpa using q1
        have e3 : (s2 == t2) = false := by simpa using q2
        have HE : Hid (tells u ss now b = [(u, (t0, t1, t2), (s0, s1, s2))]) := by show _ = _; rw [HEQ.out, if_neg (by intro h; injection h with h0 h; injection h with h1 h2; exact q2 h2)]
        by_cases qe : ss = []
        · have HF : Hid (become lt u ss now b = outK u b) := by show _ = _; rw [HBE.out, if_pos qe]
          have e4 : ((ss.length : Int) == 0) = true := by subst qe; rfl
          clear qe
          clear q0 q1 q2
          go_wp2_with fail
          have b1 := ((Below.refl w3.heap.size w3).alloc (Nat.le_refl _) (.cells #[.int .i64 s0, .int .i64 s1, .int .i64 s2] 57)).alloc (by simp) (.cells #[.string u, .int .i64 t0, .int .i64 t1, .int .i64 t2, .int .i64 s0, .int .i64 s1, .int .i64 s2] 185)
          have HIC := Lib.hid (Is.new (w3.alloc (.cells #[.int .i64 s0, .int .i64 s1, .int .i64 s2] 57)) 185 #[.string u, .int .i64 t0, .int .i64 t1, .int .i64 t2, .int .i64 s0, .int .i64 s1, .int .i64 s2] (g := w3.heap.size + 1) (by simp))
          have hg : w.heap.size + 1 < w3.heap.size := HI1.out.lt
          replace HI1 := Lib.hid (HI1.out.below b1 HI1.out.lt)
          replace HX := Lib.hid ((HX.out.under b1).wide b1.size)
          replace HB := Lib.hid (HB.out.trans (b1.mono HB.out.size))
          clear b1
          generalize ((w3.alloc (.cells #[.int .i64 s0, .int .i64 s1, .int .i64 s2] 57)).alloc (.cells #[.string u, .int .i64 t0, .int .i64 t1, .int .i64 t2, .int .i64 s0, .int .i64 s1, .int .i64 s2] 185)) = w4 at *
          refine (withoutM u HX.out (Nat.le_refl _) HXR.out (by omega)).mono ?_
          rintro e w5 ⟨p5, rfl, t5, b1⟩
          replace HI1 := Lib.hid (HI1.out.below b1 HI1.out.lt)
          replace HIC := Lib.hid (HIC.out.below b1 HIC.out.lt)
          replace HB := Lib.hid (HB.out.trans (b1.mono HB.out.size))
          have HX5 := Lib.hid (t5.far (i := 0) HI1.out (by decide) (.pointer p5))
          have HIC5 := Lib.hid (HIC.out.far (p := ⟨w.heap.size + 1, 0, none⟩) (by simp; omega) (.pointer p5))
          have HB5 := Lib.hid (HB.out.setCell (p := ⟨w.heap.size + 1, 0, none⟩) (Nat.le_succ _) (.pointer p5))
          have HI5 := Lib.hid (HI1.out.set 0 (.pointer p5) rfl)
          have l1 := HI1.out.lt
          have f1 := HI1.out.frozen 0
          have m1 := HI1.out.cell' (i := 0) rfl
          clear t5 b1 k1 k2 k3 l2 j0 l0 HX HIC
          go_wp2_with fail
          have e9 : w5.heap.size = (w5.setCell ⟨w.heap.size + 1, 0, none⟩ (.pointer p5)).heap.size := by simp
          rw [e9] at HX5
          clear e9 m1 f1 l1
          generalize w5.setCell ⟨w.heap.size + 1, 0, none⟩ (.pointer p5) = w6 at *
          have c6 := HI5.out.cell' (i := 0) rfl
          refine bodyPost_ret (v := .tuple #[M p5, .slice (some ⟨w3.heap.size + 1, 0, none⟩) 1 1]) (by simp [results, Tryz.results84, go_sem, c6]) rfl ?_
          rw [HE.out, HF.out]
          refine ⟨p5, _, _, rfl, ⟨_, HX5.out, ?_, ?_⟩, Lain.is HIC5.out rfl, HB5.out⟩
          · exact fun q hq => (HIN.out q (List.mem_filter.1 hq).1).keeps (Keeps.of_below HB5.out)
          · rw [mapV_out, HM.out]
        · have HF : Hid (become lt u ss now b = putK lt u (ss, s0, s1, s2) b) := by show _ = _; rw [HBE.out, if_neg qe]
          have e4 : ((ss.length : Int) == 0) = false := by have := List.length_pos_iff.2 qe; simp; omega
          clear q0 q1 q2
          go_wp2_with fail
          have b1 := ((Below.refl w3.heap.size w3).alloc (Nat.le_refl _) (.cells #[.int .i64 s0, .int .i64 s1, .int .i64 s2] 57)).alloc (by simp) (.cells #[.string u, .int .i64 t0, .int .i64 t1, .int .i64 t2, .int .i64 s0, .int .i64 s1, .int .i64 s2] 185)
          have HIC := Lib.hid (Is.new (w3.alloc (.cells #[.int .i64 s0, .int .i64 s1, .int .i64 s2] 57)) 185 #[.string u, .int .i64 t0, .int .i64 t1, .int .i64 t2, .int .i64 s0, .int .i64 s1, .int .i64 s2] (g := w3.heap.size + 1) (by simp))
          have hg : w.heap.size + 1 < w3.heap.size := HI1.out.lt
          replace HI1 := Lib.hid (HI1.out.below b1 HI1.out.lt)
          replace HX := Lib.hid ((HX.out.under b1).wide b1.size)
          replace HB := Lib.hid (HB.out.trans (b1.mono HB.out.size))
          clear b1
          generalize ((w3.alloc (.cells #[.int .i64 s0, .int .i64 s1, .int .i64 s2] 57)).alloc (.cells #[.string u, .int .i64 t0, .int .i64 t1, .int .i64 t2, .int .i64 s0, .int .i64 s1, .int .i64 s2] 185)) = w4 at *
          refine (withM u (EnV.mk A ss.length c s0 s1 s2 ss) HX.out (Nat.le_refl _) HXR.out (by omega)).mono ?_
          rintro e w5 ⟨p5, rfl, t5, b1⟩
          replace HI1 := Lib.hid (HI1.out.below b1 HI1.out.lt)
          replace HIC := Lib.hid (HIC.out.below b1 HIC.out.lt)
          replace HB := Lib.hid (HB.out.trans (b1.mono HB.out.size))
          have HX5 := Lib.hid (t5.far (i := 0) HI1.out (by decide) (.pointer p5))
          have HIC5 := Lib.hid (HIC.out.far (p := ⟨w.heap.size + 1, 0, none⟩) (by simp; omega) (.pointer p5))
          have HB5 := Lib.hid (HB.out.setCell (p := ⟨w.heap.size + 1, 0, none⟩) (Nat.le_succ _) (.pointer p5))
          have HI5 := Lib.hid (HI1.out.set 0 (.pointer p5) rfl)
          have l1 := HI1.out.lt
          have f1 := HI1.out.frozen 0
          have m1 := HI1.out.cell' (i := 0) rfl
          clear t5 b1 k1 k2 k3 l2 j0 l0 HX HIC
          go_wp2_with fail
          have e9 : w5.heap.size = (w5.setCell ⟨w.heap.size + 1, 0, none⟩ (.pointer p5)).heap.size := by simp
          rw [e9] at HX5
          clear e9 m1 f1 l1
          generalize w5.setCell ⟨w.heap.size + 1, 0, none⟩ (.pointer p5) = w6 at *
          have c6 := HI5.out.cell' (i := 0) rfl
          refine bodyPost_ret (v := .tuple #[M p5, .slice (some ⟨w3.heap.size + 1, 0, none⟩) 1 1]) (by simp [results, Tryz.results84, go_sem, c6]) rfl ?_
          rw [HE.out, HF.out]
          refine ⟨p5, _, _, rfl, ⟨_, HX5.out, ?_, ?_⟩, Lain.is HIC5.out rfl, HB5.out⟩
          · intro q hq
            rcases putK_mem lt hq with rfl | hq
            · exact ⟨rfl, HSO.out.now HB5.out⟩
            · exact (HIN.out q hq).keeps (Keeps.of_below HB5.out)
          · rw [mapV_put, HM.out]; rfl
    · have e1 : (s0 == t0) = true := by simpa using q0
      have e2 : (s1 == t1) = false := by simpa using q1
      have HE : Hid (tells u ss now b = [(u, (t0, t1, t2), (s0, s1, s2))]) := by show _ = _; rw [HEQ.out, if_neg (by intro h; injection h with h0 h; injection h with h1 h2; exact q1 h1)]
      by_cases qe : ss = []
      · have HF : Hid (become lt u ss now b = outK u b) := by show _ = _; rw [HBE.out, if_pos qe]
        have e4 : ((ss.length : Int) == 0) = true := by subst qe; rfl
        clear qe
        clear q0 q1
        go_wp2_with fail
        have b1 := ((Below.refl w3.heap.size w3).alloc (Nat.le_refl _) (.cells #[.int .i64 s0, .int .i64 s1, .int .i64 s2] 57)).alloc (by simp) (.cells #[.string u, .int .i64 t0, .int .i64 t1, .int .i64 t2, .int .i64 s0, .int .i64 s1, .int .i64 s2] 185)
        have HIC := Lib.hid (Is.new (w3.alloc (.cells #[.int .i64 s0, .int .i64 s1, .int .i64 s2] 57)) 185 #[.string u, .int .i64 t0, .int .i64 t1, .int .i64 t2, .int .i64 s0, .int .i64 s1, .int .i64 s2] (g := w3.heap.size + 1) (by simp))
        have hg : w.heap.size + 1 < w3.heap.size := HI1.out.lt
        replace HI1 := Lib.hid (HI1.out.below b1 HI1.out.lt)
        replace HX := Lib.hid ((HX.out.under b1).wide b1.size)
        replace HB := Lib.hid (HB.out.trans (b1.mono HB.out.size))
        clear b1
        generalize ((w3.alloc (.cells #[.int .i64 s0, .int .i64 s1, .int .i64 s2] 57)).alloc (.cells #[.string u, .int .i64 t0, .int .i64 t1, .int .i64 t2, .int .i64 s0, .int .i64 s1, .int .i64 s2] 185)) = w4 at *
        refine (withoutM u HX.out (Nat.le_refl _) HXR.out (by omega)).mono ?_
        rintro e w5 ⟨p5, rfl, t5, b1⟩
        replace HI1 := Lib.hid (HI1.out.below b1 HI1.out.lt)
        replace HIC := Lib.hid (HIC.out.below b1 HIC.out.lt)
        replace HB := Lib.hid (HB.out.trans (b1.mono HB.out.size))
        have HX5 := Lib.hid (t5.far (i := 0) HI1.out (by decide) (.pointer p5))
        have HIC5 := Lib.hid (HIC.out.far (p := ⟨w.heap.size + 1, 0, none⟩) (by simp; omega) (.pointer p5))
        have HB5 := Lib.hid (HB.out.setCell (p := ⟨w.heap.size + 1, 0, none⟩) (Nat.le_succ _) (.pointer p5))
        have HI5 := Lib.hid (HI1.out.set 0 (.pointer p5) rfl)
        have l1 := HI1.out.lt
        have f1 := HI1.out.frozen 0
        have m1 := HI1.out.cell' (i := 0) rfl
        clear t5 b1 k1 k2 k3 l2 j0 l0 HX HIC
        go_wp2_with fail
        have e9 : w5.heap.size = (w5.setCell ⟨w.heap.size + 1, 0, none⟩ (.pointer p5)).heap.size := by simp
        rw [e9] at HX5
        clear e9 m1 f1 l1
        generalize w5.setCell ⟨w.heap.size + 1, 0, none⟩ (.pointer p5) = w6 at *
        have c6 := HI5.out.cell' (i := 0) rfl
        refine bodyPost_ret (v := .tuple #[M p5, .slice (some ⟨w3.heap.size + 1, 0, none⟩) 1 1]) (by simp [results, Tryz.results84, go_sem, c6]) rfl ?_
        rw [HE.out, HF.out]
        refine ⟨p5, _, _, rfl, ⟨_, HX5.out, ?_, ?_⟩, Lain.is HIC5.out rfl, HB5.out⟩
        · exact fun q hq => (HIN.out q (List.mem_filter.1 hq).1).keeps (Keeps.of_below HB5.out)
        · rw [mapV_out, HM.out]
      · have HF : Hid (become lt u ss now b = putK lt u (ss, s0, s1, s2) b) := by show _ = _; rw [HBE.out, if_neg qe]
        have e4 : ((ss.length : Int) == 0) = false := by have := List.length_pos_iff.2 qe; simp; omega
        clear q0 q1
        go_wp2_with fail
        have b1 := ((Below.refl w3.heap.size w3).alloc (Nat.le_refl _) (.cells #[.int .i64 s0, .int .i64 s1, .int .i64 s2] 57)).alloc (by simp) (.cells #[.string u, .int .i64 t0, .int .i64 t1, .int .i64 t2, .int .i64 s0, .int .i64 s1, .int .i64 s2] 185)
        have HIC := Lib.hid (Is.new (w3.alloc (.cells #[.int .i64 s0, .int .i64 s1, .int .i64 s2] 57)) 185 #[.string u, .int .i64 t0, .int .i64 t1, .int .i64 t2, .int .i64 s0, .int .i64 s1, .int .i64 s2] (g := w3.heap.size + 1) (by simp))
        have hg : w.heap.size + 1 < w3.heap.size := HI1.out.lt
        replace HI1 := Lib.hid (HI1.out.below b1 HI1.out.lt)
        replace HX := Lib.hid ((HX.out.under b1).wide b1.size)
        replace HB := Lib.hid (HB.out.trans (b1.mono HB.out.size))
        clear b1
        generalize ((w3.alloc (.cells #[.int .i64 s0, .int .i64 s1, .int .i64 s2] 57)).alloc (.cells #[.string u, .int .i64 t0, .int .i64 t1, .int .i64 t2, .int .i64 s0, .int .i64 s1, .int .i64 s2] 185)) = w4 at *
        refine (withM u (EnV.mk A ss.length c s0 s1 s2 ss) HX.out (Nat.le_refl _) HXR.out (by omega)).mono ?_
        rintro e w5 ⟨p5, rfl, t5, b1⟩
        replace HI1 := Lib.hid (HI1.out.below b1 HI1.out.lt)
        replace HIC := Lib.hid (HIC.out.below b1 HIC.out.lt)
        replace HB := Lib.hid (HB.out.trans (b1.mono HB.out.size))
        have HX5 := Lib.hid (t5.far (i := 0) HI1.out (by decide) (.pointer p5))
        have HIC5 := Lib.hid (HIC.out.far (p := ⟨w.heap.size + 1, 0, none⟩) (by simp; omega) (.pointer p5))
        have HB5 := Lib.hid (HB.out.setCell (p := ⟨w.heap.size + 1, 0, none⟩) (Nat.le_succ _) (.pointer p5))
        have HI5 := Lib.hid (HI1.out.set 0 (.pointer p5) rfl)
        have l1 := HI1.out.lt
        have f1 := HI1.out.frozen 0
        have m1 := HI1.out.cell' (i := 0) rfl
        clear t5 b1 k1 k2 k3 l2 j0 l0 HX HIC
        go_wp2_with fail
        have e9 : w5.heap.size = (w5.setCell ⟨w.heap.size + 1, 0, none⟩ (.pointer p5)).heap.size := by simp
        rw [e9] at HX5
        clear e9 m1 f1 l1
        generalize w5.setCell ⟨w.heap.size + 1, 0, none⟩ (.pointer p5) = w6 at *
        have c6 := HI5.out.cell' (i := 0) rfl
        refine bodyPost_ret (v := .tuple #[M p5, .slice (some ⟨w3.heap.size + 1, 0, none⟩) 1 1]) (by simp [results, Tryz.results84, go_sem, c6]) rfl ?_
        rw [HE.out, HF.out]
        refine ⟨p5, _, _, rfl, ⟨_, HX5.out, ?_, ?_⟩, Lain.is HIC5.out rfl, HB5.out⟩
        · intro q hq
          rcases putK_mem lt hq with rfl | hq
          · exact ⟨rfl, HSO.out.now HB5.out⟩
          · exact (HIN.out q hq).keeps (Keeps.of_below HB5.out)
        · rw [mapV_put, HM.out]; rfl
  · have e1 : (s0 == t0) = false := by simpa using q0
    have HE : Hid (tells u ss now b = [(u, (t0, t1, t2), (s0, s1, s2))]) := by show _ = _; rw [HEQ.out, if_neg (by intro h; injection h with h0 h; injection h with h1 h2; exact q0 h0)]
    by_cases qe : ss = []
    · have HF : Hid (become lt u ss now b = outK u b) := by show _ = _; rw [HBE.out, if_pos qe]
      have e4 : ((ss.length : Int) == 0) = true := by subst qe; rfl
      clear qe
      clear q0
      go_wp2_with fail
      have b1 := ((Below.refl w3.heap.size w3).alloc (Nat.le_refl _) (.cells #[.int .i64 s0, .int .i64 s1, .int .i64 s2] 57)).alloc (by simp) (.cells #[.string u, .int .i64 t0, .int .i64 t1, .int .i64 t2, .int .i64 s0, .int .i64 s1, .int .i64 s2] 185)
      have HIC := Lib.hid (Is.new (w3.alloc (.cells #[.int .i64 s0, .int .i64 s1, .int .i64 s2] 57)) 185 #[.string u, .int .i64 t0, .int .i64 t1, .int .i64 t2, .int .i64 s0, .int .i64 s1, .int .i64 s2] (g := w3.heap.size + 1) (by simp))
      have hg : w.heap.size + 1 < w3.heap.size := HI1.out.lt
      replace HI1 := Lib.hid (HI1.out.below b1 HI1.out.lt)
      replace HX := Lib.hid ((HX.out.under b1).wide b1.size)
      replace HB := Lib.hid (HB.out.trans (b1.mono HB.out.size))
      clear b1
      generalize ((w3.alloc (.cells #[.int .i64 s0, .int .i64 s1, .int .i64 s2] 57)).alloc (.cells #[.string u, .int .i64 t0, .int .i64 t1, .int .i64 t2, .int .i64 s0, .int .i64 s1, .int .i64 s2] 185)) = w4 at *
      refine (withoutM u HX.out (Nat.le_refl _) HXR.out (by omega)).mono ?_
      rintro e w5 ⟨p5, rfl, t5, b1⟩
      replace HI1 := Lib.hid (HI1.out.below b1 HI1.out.lt)
      replace HIC := Lib.hid (HIC.out.below b1 HIC.out.lt)
      replace HB := Lib.hid (HB.out.trans (b1.mono HB.out.size))
      have HX5 := Lib.hid (t5.far (i := 0) HI1.out (by decide) (.pointer p5))
      have HIC5 := Lib.hid (HIC.out.far (p := ⟨w.heap.size + 1, 0, none⟩) (by simp; omega) (.pointer p5))
      have HB5 := Lib.hid (HB.out.setCell (p := ⟨w.heap.size + 1, 0, none⟩) (Nat.le_succ _) (.pointer p5))
      have HI5 := Lib.hid (HI1.out.set 0 (.pointer p5) rfl)
      have l1 := HI1.out.lt
      have f1 := HI1.out.frozen 0
      have m1 := HI1.out.cell' (i := 0) rfl
      clear t5 b1 k1 k2 k3 l2 j0 l0 HX HIC
      go_wp2_with fail
      have e9 : w5.heap.size = (w5.setCell ⟨w.heap.size + 1, 0, none⟩ (.pointer p5)).heap.size := by simp
      rw [e9] at HX5
      clear e9 m1 f1 l1
      generalize w5.setCell ⟨w.heap.size + 1, 0, none⟩ (.pointer p5) = w6 at *
      have c6 := HI5.out.cell' (i := 0) rfl
      refine bodyPost_ret (v := .tuple #[M p5, .slice (some ⟨w3.heap.size + 1, 0, none⟩) 1 1]) (by simp [results, Tryz.results84, go_sem, c6]) rfl ?_
      rw [HE.out, HF.out]
      refine ⟨p5, _, _, rfl, ⟨_, HX5.out, ?_, ?_⟩, Lain.is HIC5.out rfl, HB5.out⟩
      · exact fun q hq => (HIN.out q (List.mem_filter.1 hq).1).keeps (Keeps.of_below HB5.out)
      · rw [mapV_out, HM.out]
    · have HF : Hid (become lt u ss now b = putK lt u (ss, s0, s1, s2) b) := by show _ = _; rw [HBE.out, if_neg qe]
      have e4 : ((ss.length : Int) == 0) = false := by have := List.length_pos_iff.2 qe; simp; omega
      clear q0
      go_wp2_with fail
      have b1 := ((Below.refl w3.heap.size w3).alloc (Nat.le_refl _) (.cells #[.int .i64 s0, .int .i64 s1, .int .i64 s2] 57)).alloc (by simp) (.cells #[.string u, .int .i64 t0, .int .i64 t1, .int .i64 t2, .int .i64 s0, .int .i64 s1, .int .i64 s2] 185)
      have HIC := Lib.hid (Is.new (w3.alloc (.cells #[.int .i64 s0, .int .i64 s1, .int .i64 s2] 57)) 185 #[.string u, .int .i64 t0, .int .i64 t1, .int .i64 t2, .int .i64 s0, .int .i64 s1, .int .i64 s2] (g := w3.heap.size + 1) (by simp))
      have hg : w.heap.size + 1 < w3.heap.size := HI1.out.lt
      replace HI1 := Lib.hid (HI1.out.below b1 HI1.out.lt)
      replace HX := Lib.hid ((HX.out.under b1).wide b1.size)
      replace HB := Lib.hid (HB.out.trans (b1.mono HB.out.size))
      clear b1
      generalize ((w3.alloc (.cells #[.int .i64 s0, .int .i64 s1, .int .i64 s2] 57)).alloc (.cells #[.string u, .int .i64 t0, .int .i64 t1, .int .i64 t2, .int .i64 s0, .int .i64 s1, .int .i64 s2] 185)) = w4 at *
      refine (withM u (EnV.mk A ss.length c s0 s1 s2 ss) HX.out (Nat.le_refl _) HXR.out (by omega)).mono ?_
      rintro e w5 ⟨p5, rfl, t5, b1⟩
      replace HI1 := Lib.hid (HI1.out.below b1 HI1.out.lt)
      replace HIC := Lib.hid (HIC.out.below b1 HIC.out.lt)
      replace HB := Lib.hid (HB.out.trans (b1.mono HB.out.size))
      have HX5 := Lib.hid (t5.far (i := 0) HI1.out (by decide) (.pointer p5))
      have HIC5 := Lib.hid (HIC.out.far (p := ⟨w.heap.size + 1, 0, none⟩) (by simp; omega) (.pointer p5))
      have HB5 := Lib.hid (HB.out.setCell (p := ⟨w.heap.size + 1, 0, none⟩) (Nat.le_succ _) (.pointer p5))
      have HI5 := Lib.hid (HI1.out.set 0 (.pointer p5) rfl)
      have l1 := HI1.out.lt
      have f1 := HI1.out.frozen 0
      have m1 := HI1.out.cell' (i := 0) rfl
      clear t5 b1 k1 k2 k3 l2 j0 l0 HX HIC
      go_wp2_with fail
      have e9 : w5.heap.size = (w5.setCell ⟨w.heap.size + 1, 0, none⟩ (.pointer p5)).heap.size := by simp
      rw [e9] at HX5
      clear e9 m1 f1 l1
      generalize w5.setCell ⟨w.heap.size + 1, 0, none⟩ (.pointer p5) = w6 at *
      have c6 := HI5.out.cell' (i := 0) rfl
      refine bodyPost_ret (v := .tuple #[M p5, .slice (some ⟨w3.heap.size + 1, 0, none⟩) 1 1]) (by simp [results, Tryz.results84, go_sem, c6]) rfl ?_
      rw [HE.out, HF.out]
      refine ⟨p5, _, _, rfl, ⟨_, HX5.out, ?_, ?_⟩, Lain.is HIC5.out rfl, HB5.out⟩
      · intro q hq
        rcases putK_mem lt hq with rfl | hq
        · exact ⟨rfl, HSO.out.now HB5.out⟩
        · exact (HIN.out q hq).keeps (Keeps.of_below HB5.out)
      · rw [mapV_put, HM.out]; rfl

end Bk
end Go.Proofs.YtohdlnefgieenaaGreat
