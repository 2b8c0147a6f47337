/-
  The calls of layer 6, and the reference's, in one form: a list, an error's number, where it lies; a copy of a list onto an empty one.
-/
import Derived.Test.YtdkjcheannehhaaGreatJ14
import Derived.Test.YtdkjcheannehhaaGreatRows
import Derived.Test.YtdkjcheannehhaaGreatJ6
import Derived.WalkKit
import Derived.WalkSpells
import Derived.WalkLawsBesides
namespace Go.Law
open Go.RowKit
theorem Turned.refl (w : World) (g : Nat) : Turned w w g := ⟨rfl, rfl, rfl, rfl, fun _ _ => rfl⟩
theorem Turned.store {w w' : World} {g : Nat} (h : Turned w w' g) (i : Nat) (u : Value) : Turned w (w'.setCell ⟨g, i, none⟩ u) g :=
  ⟨h.os, h.tape, h.output, by simpa using h.size, fun k hk => (Below.heap_setCell w' ⟨g, i, none⟩ u k hk).trans (h.block k hk)⟩
theorem Turned.seq {w w' : World} {g lo B : Nat} {A : Option Addr} {xs : List Value} (h : Turned w w' g) (hs : Seq w lo B A xs) (hg : g < lo ∨ B ≤ g) : Seq w' lo B A xs :=
  hs.keep fun p h1 h2 => h.cell (by omega)
/-- what Set makes of a list -/
def SetTo (s : Sn) (most : Int) (us ls : List Sn) (er : Int) : Prop :=
  (hasS s.1 us = true ∧ ls = put s us ∧ er = 0) ∨ (hasS s.1 us = false ∧ most ≤ (us.length : Int) ∧ ls = us ∧ er = 2) ∨ (hasS s.1 us = false ∧ (us.length : Int) < most ∧ ls = put s us ∧ er = 0)
theorem SetTo.ex (s : Sn) (most : Int) (us : List Sn) : ∃ ls er, SetTo s most us ls er ∧ ls.length ≤ us.length + 1 := by
  have := put_le s us
  cases h : hasS s.1 us with
  | true => exact ⟨_, _, .inl ⟨h, rfl, rfl⟩, this⟩
  | false =>
    by_cases hm : most ≤ (us.length : Int)
    · exact ⟨_, _, .inr (.inl ⟨h, hm, rfl, rfl⟩), by omega⟩
    · exact ⟨_, _, .inr (.inr ⟨h, by omega, rfl, rfl⟩), this⟩
/-- what Beat makes of a list -/
def BeatTo (k u : Int) (us ls : List Sn) (er : Int) : Prop := (hasS k us = true ∧ ls = beatS k u us ∧ er = 0) ∨ (hasS k us = false ∧ ls = us ∧ er = 3)
theorem BeatTo.ex (k u : Int) (us : List Sn) : ∃ ls er, BeatTo k u us ls er ∧ ls.length = us.length := by
  cases h : hasS k us with
  | true => exact ⟨_, _, .inl ⟨h, rfl, rfl⟩, beat_length k u us⟩
  | false => exact ⟨_, _, .inr ⟨h, rfl, rfl⟩, rfl⟩
end Go.Law
namespace Go.Proofs.YtdkjcheannehhaaGreat
open Go.RowKit
namespace Sess
open Go.Law
/-- behind a call: this list lies there, this is the error's number, nothing old has turned -/
def Gives (w : World) (ls : List Sn) (er : Int) (e : Ending) (w' : World) : Prop := ∃ A c, e = .returned (.tuple #[.slice A ls.length c, .int .i64 er]) ∧ Seq w' 0 w'.heap.size A (flatS ls) ∧ Below w.heap.size w w'
def Lies (w : World) (ls : List Sn) (e : Ending) (w' : World) : Prop := ∃ A c, e = .returned (.slice A ls.length c) ∧ Seq w' 0 w'.heap.size A (flatS ls) ∧ Below w.heap.size w w'
theorem Listed2.gives {w : World} {ls : List Sn} {er : Int} {e : Ending} {w' : World} (h : Listed2 w ls er e w') : Gives w ls er e w' := by
  obtain ⟨A, c, he, hr, hb⟩ := h
  exact ⟨A, c, he, (Seq.own hr).from_ (Nat.zero_le _), hb⟩
theorem Listed.lies {w : World} {ls : List Sn} {e : Ending} {w' : World} (h : Listed w w.heap.size ls e w') : Lies w ls e w' := by
  obtain ⟨A, c, he, hr, hb⟩ := h
  exact ⟨A, c, he, (Seq.own hr).from_ (Nat.zero_le _), hb⟩
section
variable {us ls : List Sn} {A : Option Addr} {c : Nat} {w : World} {er : Int}
theorem setG {s : Sn} {most : Int} (h : SetTo s most us ls er) (hs : Seq w 0 w.heap.size A (flatS us)) (hl : us.length ≤ 900) (hu : Up us) : Calls Tryz.prog 121 #[.slice A us.length c, V s, .int .i64 most] w (Gives w ls er) := by
  rcases h with ⟨h, rfl, rfl⟩ | ⟨h, hm, rfl, rfl⟩ | ⟨h, hm, rfl, rfl⟩
  · exact (setOver s most us A c w hs hl hu h).mono fun _ _ h => h.gives
  · exact (setFull s most _ A c w hs hl h hm).mono fun _ _ h => h.gives
  · exact (setNew s most us A c w hs hl h hm).mono fun _ _ h => h.gives
theorem refSetG {s : Sn} {most : Int} (h : SetTo s most us ls er) (hs : Seq w 0 w.heap.size A (flatS us)) (hl : us.length ≤ 900) (hu : Up us) : Calls Tryz.prog 72 #[.slice A us.length c, V s, .int .i64 most] w (Gives w ls er) := by
  rcases h with ⟨h, rfl, rfl⟩ | ⟨h, hm, rfl, rfl⟩ | ⟨h, hm, rfl, rfl⟩
  · exact (refSetPut s most us A c w hs hl hu true h (.inl rfl)).mono fun _ _ h => h.gives
  · exact (refSetFull s most _ A c w hs hl h hm).mono fun _ _ h => ⟨A, c, h.1, (hs.below h.2).more h.2.size, h.2⟩
  · exact (refSetPut s most us A c w hs hl hu false h (.inr hm)).mono fun _ _ h => h.gives
theorem beatG {k u : Int} (h : BeatTo k u us ls er) (hs : Seq w 0 w.heap.size A (flatS us)) (hl : us.length ≤ 900) (hu : Up us) : Calls Tryz.prog 122 #[.slice A us.length c, .int .i64 k, .int .u64 u] w (Gives w ls er) := by
  rcases h with ⟨h, rfl, rfl⟩ | ⟨h, rfl, rfl⟩
  · exact (beatOne k u us A c w hs hl hu h).mono fun _ _ h => h.gives
  · exact (beatNo k u _ A c w hs hl h).mono fun _ _ h => h.gives
theorem refBeatG {k u : Int} (h : BeatTo k u us ls er) (hs : Seq w 0 w.heap.size A (flatS us)) (hl : us.length ≤ 900) : Calls Tryz.prog 73 #[.slice A us.length c, .int .i64 k, .int .u64 u] w (Gives w ls er) := by
  rcases h with ⟨h, rfl, rfl⟩ | ⟨h, rfl, rfl⟩
  · exact (refBeatOne k u us A c w hs hl h).mono fun _ _ h => h.gives
  · exact (refBeatNo k u _ A c w hs hl h).mono fun _ _ h => ⟨A, c, h.1, (hs.below h.2).more h.2.size, h.2⟩
theorem clearG {k : Int} (b : Bool) (hb : hasS k us = b) (her : er = if b then 0 else 3) (hs : Seq w 0 w.heap.size A (flatS us)) (hl : us.length ≤ 900) (hu : Up us) : Calls Tryz.prog 123 #[.slice A us.length c, .int .i64 k] w (Gives w (out k us) er) := by
  subst her
  cases b
  · rw [out_none hb]; exact (clearNo k us A c w hs hl hb).mono fun _ _ h => h.gives
  · exact (clearOne k us A c w hs hl hu hb).mono fun _ _ h => h.gives
theorem purgeG {now : Int} (hs : Seq w 0 w.heap.size A (flatS us)) (hl : us.length ≤ 900) : Calls Tryz.prog 87 #[.slice A us.length c, .int .u64 now] w (Lies w (live now us)) := (purge now us A c w hs hl).mono fun _ _ h => h.lies
theorem refPurgeG {now : Int} (hs : Seq w 0 w.heap.size A (flatS us)) (hl : us.length ≤ 900) : Calls Tryz.prog 69 #[.slice A us.length c, .int .u64 now] w (Lies w (live now us)) := (refPurge now us A c w hs hl).mono fun _ _ h => h.lies
theorem refClearG {k : Int} (hs : Seq w 0 w.heap.size A (flatS us)) (hl : us.length ≤ 900) : Calls Tryz.prog 75 #[.slice A us.length c, .int .i64 k] w (Lies w (out k us)) := (refClear k us A c w hs hl).mono fun _ _ h => h.lies
theorem setE {s : Sn} {most : Int} (h : hasS s.1 us = true ∨ (us.length : Int) < most) (e : put s us = ls) (hs : Seq w 0 w.heap.size A (flatS us)) (hl : us.length ≤ 900) (hu : Up us) : Calls Tryz.prog 121 #[.slice A us.length c, V s, .int .i64 most] w (Gives w ls 0) := by
  subst e
  cases hh : hasS s.1 us with
  | true => exact (setOver s most us A c w hs hl hu hh).mono fun _ _ h => h.gives
  | false =>
    refine (setNew s most us A c w hs hl hh ?_).mono fun _ _ h => h.gives
    rcases h with h | h
    · rw [hh] at h; cases h
    · exact h
theorem beatE {k u : Int} (h : hasS k us = true) (e : beatS k u us = ls) (hs : Seq w 0 w.heap.size A (flatS us)) (hl : us.length ≤ 900) (hu : Up us) : Calls Tryz.prog 122 #[.slice A us.length c, .int .i64 k, .int .u64 u] w (Gives w ls 0) := by
  subst e
  exact (beatOne k u us A c w hs hl hu h).mono fun _ _ h => h.gives
theorem clearE {k : Int} (h : hasS k us = true) (e : out k us = ls) (hs : Seq w 0 w.heap.size A (flatS us)) (hl : us.length ≤ 900) (hu : Up us) : Calls Tryz.prog 123 #[.slice A us.length c, .int .i64 k] w (Gives w ls 0) := by
  subst e
  exact (clearOne k us A c w hs hl hu h).mono fun _ _ h => h.gives
theorem clearN {k : Int} (h : hasS k us = false) (hs : Seq w 0 w.heap.size A (flatS us)) (hl : us.length ≤ 900) : Calls Tryz.prog 123 #[.slice A us.length c, .int .i64 k] w (Gives w us 3) :=
  (clearNo k us A c w hs hl h).mono fun _ _ h => h.gives
theorem purgeE {now : Int} (e : live now us = ls) (hs : Seq w 0 w.heap.size A (flatS us)) (hl : us.length ≤ 900) : Calls Tryz.prog 87 #[.slice A us.length c, .int .u64 now] w (Lies w ls) := by
  subst e
  exact purgeG hs hl
end
end Sess
end Go.Proofs.YtdkjcheannehhaaGreat
/-
  What each call of layer 1 (tick), the reference's Add, and the statements' example come to.
-/
namespace Go.Proofs.YtdkjcheannehhaaGreat
open Go.RowKit
namespace Tick
open Door

theorem wrap_add (a b : Int) (ha : U a) (hb : U b) : (IntKind.u64.wrap (a + b) < a → sat a b = top) ∧ (a ≤ IntKind.u64.wrap (a + b) → IntKind.u64.wrap (a + b) = sat a b) := by
  unfold U at *; unfold sat
  rw [IntKind.wrap_u64]
  unfold top at *
  constructor
  · intro h; rw [if_neg (by omega)]
  · intro h; rw [if_pos (by omega)]; omega
theorem wrap_left (a b : Int) (ha : U a) (hb : U b) : (IntKind.u64.wrap (18446744073709551615 - a) < b → sat a b = top) ∧ (b ≤ IntKind.u64.wrap (18446744073709551615 - a) → IntKind.u64.wrap (a + b) = sat a b) := by
  unfold U at *; unfold sat
  rw [IntKind.wrap_u64, IntKind.wrap_u64]
  unfold top at *
  constructor
  · intro h; rw [if_neg (by omega)]
  · intro h; rw [if_pos (by omega)]; omega
theorem ret_u64 {a b : Int} (h : a = b) : Ending.returned (.int .u64 a) = .returned (.int .u64 b) := by rw [h]

set_option maxHeartbeats 400000 in
theorem late (a b : Int) (w : World) :
    Calls Tryz.prog 108 #[.int .u64 a, .int .u64 b] w fun e w' => e = .returned (.bool (decide (b ≤ a))) ∧ w = w' := by
  go_enter Tryz.func108, Tryz.ntmps108
  go_wp2
  go_ret
  exact ⟨rfl, rfl⟩
set_option maxHeartbeats 400000 in
theorem add (a b : Int) (ha : U a) (hb : U b) (w : World) :
    Calls Tryz.prog 97 #[.int .u64 a, .int .u64 b] w fun e w' => e = .returned (.int .u64 (sat a b)) ∧ w = w' := by
  go_enter Tryz.func97, Tryz.ntmps97
  go_wp2
  all_goals go_ret
  · exact ⟨ret_u64 ((wrap_add a b ha hb).1 (by assumption)).symm, rfl⟩
  · exact ⟨ret_u64 ((wrap_add a b ha hb).2 (by assumption)), rfl⟩
set_option maxHeartbeats 400000 in
theorem refAdd (a b : Int) (ha : U a) (hb : U b) (w : World) :
    Calls Tryz.prog 37 #[.int .u64 a, .int .u64 b] w fun e w' => e = .returned (.int .u64 (sat a b)) ∧ w = w' := by
  go_enter Tryz.func37, Tryz.ntmps37
  go_wp2
  all_goals go_ret
  · exact ⟨ret_u64 ((wrap_left a b ha hb).1 (by assumption)).symm, rfl⟩
  · exact ⟨ret_u64 ((wrap_left a b ha hb).2 (by assumption)), rfl⟩
/-- a time, as a value -/
abbrev T (n s : Int) (c : Bool) : Value := .agg #[.int .u64 n, .int .u64 s, .bool c]
/-- a time's three cells -/
abbrev C (n s : Int) (c : Bool) : Obj := .cells #[.int .u64 n, .int .u64 s, .bool c] 50
set_option maxHeartbeats 400000 in
theorem pass (n s : Int) (c : Bool) (b : Int) (hn : U n) (hb : U b) (w : World) :
    Calls Tryz.prog 67 #[T n s c, .int .u64 b] w fun e w' => e = .returned (T (sat n b) s c) ∧ (w.alloc (C (sat n b) s c)).alloc (C (sat n b) s c) = w' := by
  go_enter Tryz.func67, Tryz.ntmps67
  go_wp2_with (go_at_call 97; refine (add _ _ hn hb _).mono ?_; rintro e w' ⟨rfl, rfl⟩)
  exact bodyPost_ret (v := T (sat n b) s c) (by simp [results, Tryz.results67, go_sem]) rfl ⟨rfl, rfl⟩
set_option maxHeartbeats 400000 in
theorem take (n s : Int) (c : Bool) (hs : U s) (w : World) :
    Calls Tryz.prog 85 #[T n s c] w fun e w' => e = .returned (.tuple #[T n (sat s 1) c, .int .u64 (sat s 1)]) ∧ ((w.alloc (C n (sat s 1) c)).alloc (C n (sat s 1) c)).drew = w' := by
  go_enter Tryz.func85, Tryz.ntmps85
  go_wp2_with (go_at_call 97; refine (add _ _ hs U1 _).mono ?_; rintro e w' ⟨rfl, rfl⟩)
  go_region
  go_wp2
  exact bodyPost_ret (v := .tuple #[T n (sat s 1) c, .int .u64 (sat s 1)]) (by simp [results, Tryz.results85, go_sem]) rfl ⟨rfl, rfl⟩
set_option maxHeartbeats 400000 in
theorem shut (n s : Int) (c : Bool) (w : World) :
    Calls Tryz.prog 65 #[T n s c] w fun e w' => e = .returned (T n s true) ∧ (w.alloc (C n s true)).alloc (C n s true) = w' := by
  go_enter Tryz.func65, Tryz.ntmps65
  go_wp2
  exact bodyPost_ret (v := T n s true) (by simp [results, Tryz.results65, go_sem]) rfl ⟨rfl, rfl⟩
end Tick
end Go.Proofs.YtdkjcheannehhaaGreat
