/-
  What layer 8's statements' helpers come to: later, long, made; the document's example.
-/
import Derived.Test.YtohdlnefgieenaaGreatJ12
import Derived.Test.YtohdlnefgieenaaGreatJ11
import Derived.StillTailTactics
import Derived.Test.YtohdlnefgieenaaGreatJ4
import Derived.WalkKit
import Derived.WalkSpells
import Derived.WalkLawsBesides
import Derived.Lib.Hide
import Derived.Deep.CutBlock
import Derived.Lib.QuietBelow
namespace Go.Proofs.YtohdlnefgieenaaGreat
open Go.RowKit
namespace Bk
open Go.Law Go.Proofs.YtohdlnefgieenaaGreat.OmapB Door
structure Fit (n : Nat) (b : List (ByteArray × En)) : Prop where
 book : Book lt b
 len : b.length ≤ n
 ses : ∀ q ∈ b, q.2.1.length ≤ n
theorem Fit.nil (n : Nat) : Fit n [] := ⟨Book.nil lt, Nat.zero_le _, fun _ h => by cases h⟩
theorem Fit.more {n m : Nat} {b : List (ByteArray × En)} (h : Fit n b) (hm : n ≤ m) : Fit m b := ⟨h.book, Nat.le_trans h.len hm, fun q hq => Nat.le_trans (h.ses q hq) hm⟩
theorem Fit.of {n : Nat} {b : List (ByteArray × En)} (h : Fit n b) (u : ByteArray) : (sesK u b).length ≤ n := Room.ses (n := n) (fun q hq => h.ses q hq) u
theorem wrS_up {q : OpV} {now most : Int} {b : List (ByteArray × En)} (h : Book lt b) : Up (wrS q now most b) := wrote_up (live_up now (h.ses lt q.user))
theorem wrS_le {n : Nat} {q : OpV} {now most : Int} {b : List (ByteArray × En)} (h : Fit n b) : (wrS q now most b).length ≤ n + 1 := by
 have h1 := wrote_le q.kind q.id q.st q.pr (sat now q.ttl) most (live now (sesK q.user b))
 have h2 := live_length now (sesK q.user b)
 have h3 := h.of q.user
 unfold wrS
 omega
theorem Fit.write {n : Nat} {q : OpV} {now most : Int} {b : List (ByteArray × En)} (h : Fit n b) : Fit (n + 1) (wrB q now most b) :=
 ⟨h.book.become lt tri (wrS_up h.book), Nat.le_trans (become_len lt _ _ _ _) (by have := h.len; omega), Room.become lt (n := n + 1) (fun p hp => Nat.le_succ_of_le (h.ses p hp)) (wrS_le h)⟩
theorem Fit.sweep {n : Nat} {now : Int} {b : List (ByteArray × En)} (h : Fit n b) : Fit n (sweepB now b) :=
 ⟨h.book.sweep lt, Nat.le_trans (List.length_filterMap_le _ _) h.len, Room.sweep (n := n) (fun p hp => h.ses p hp)⟩
end Bk
end Go.Proofs.YtohdlnefgieenaaGreat
namespace Go.Proofs.YtohdlnefgieenaaGreat
open Go.RowKit
namespace Hash
open Door

def step (h : Int) (c : UInt8) : Int := IntKind.u64.wrap (bits .xor .u64 h (IntKind.u64.wrap c.toNat) * 1099511628211)
def of (l : List UInt8) : Int := l.foldl step 14695981039346656037
def stripe (l : List UInt8) (n : Int) : Nat := if n < 1 then 0 else (of l % n).toNat

theorem step_U (h : Int) (c : UInt8) : 0 ≤ step h c ∧ step h c ≤ 18446744073709551615 := by
 unfold step
 rw [IntKind.wrap_u64]
 omega
theorem of_snoc (l : List UInt8) (c : UInt8) : of (l ++ [c]) = step (of l) c := by simp [of]
theorem fold_U (l : List UInt8) : ∀ h : Int, (0 ≤ h ∧ h ≤ 18446744073709551615) → 0 ≤ l.foldl step h ∧ l.foldl step h ≤ 18446744073709551615 := by
 induction l with
 | nil => intro h hh; exact hh
 | cons c l ih => intro h _; exact ih _ (step_U h c)
theorem of_U (l : List UInt8) : 0 ≤ of l ∧ of l ≤ 18446744073709551615 := fold_U l _ (by omega)
theorem take_snoc (s : ByteArray) (k : Nat) (h : k < s.size) : s.data.toList.take (k + 1) = s.data.toList.take k ++ [s[k]] := by
 rw [List.take_succ_eq_append_getElem (by simpa using h)]; rfl
theorem of_next (s : ByteArray) (k : Nat) (h : k < s.size) : of (s.data.toList.take (k + 1)) = step (of (s.data.toList.take k)) s[k] := by rw [take_snoc s k h, of_snoc]
theorem of_all (s : ByteArray) (k : Nat) (h : ¬ k < s.size) : of (s.data.toList.take k) = of s.data.toList := by rw [List.take_of_length_le (by simp; omega)]
theorem halves (x : Int) : IntKind.u64.wrap (IntKind.u64.wrap (x * 1099511627776) + IntKind.u64.wrap (x * 435)) = IntKind.u64.wrap (x * 1099511628211) := by
 simp only [IntKind.wrap_u64]
 omega
theorem stripe_lt (l : List UInt8) {n : Int} (h : 1 ≤ n) : (stripe l n : Int) < n := by
 unfold stripe
 rw [if_neg (by omega)]
 have := Int.emod_nonneg (of l) (show n ≠ 0 by omega)
 have := Int.emod_lt_of_pos (of l) (show 0 < n by omega)
 omega
theorem stripe_eq (l : List UInt8) {n : Int} (h : 1 ≤ n) : (stripe l n : Int) = of l % n := by
 unfold stripe
 rw [if_neg (by omega)]
 have := Int.emod_nonneg (of l) (show n ≠ 0 by omega)
 omega
theorem stripe_none (l : List UInt8) {n : Int} (h : n < 1) : stripe l n = 0 := by
 unfold stripe
 rw [if_pos h]
theorem ret_int {k : IntKind} {a b : Int} (h : a = b) : Ending.returned (.int k a) = .returned (.int k b) := by rw [h]

set_option maxHeartbeats 400000 in
theorem hof (s : ByteArray) (w : World) (hs : s.size ≤ maxLen) :
  Calls Tryz.prog 90 #[.string s] w fun e w' => e = .returned (.int .u64 (of s.data.toList)) ∧ w = w' := by
 unfold maxLen at hs
 go_enter Tryz.func90, Tryz.ntmps90
 go_wp2
 go_loop [3, 7] (fun h i => ∃ k : Nat, k ≤ s.size ∧ i = .int .i64 k ∧ h = .int .u64 (of (s.data.toList.take k))) (fun _ i => s.size - (intOf i).toNat)
 case atStart => exact ⟨0, Nat.zero_le _, rfl, rfl⟩
 case round =>
  obtain ⟨k, hk, rfl, rfl⟩ := hrel
  have hu := of_U (s.data.toList.take k)
  by_cases hlt : k < s.size
  ·have H : Hid (of (s.data.toList.take (k + 1)) = IntKind.u64.wrap (bits .xor .u64 (of (s.data.toList.take k)) (IntKind.u64.wrap s[k].toNat) * 1099511628211)) := of_next s k hlt
   go_wp2
   go_round
   case rel => exact ⟨k + 1, by omega, by go_num, by rw [H.out]⟩
   case measure => simp [intOf]; omega
  ·have H : Hid (of (s.data.toList.take k) = of s.data.toList) := of_all s k hlt
   go_wp2
   go_ret
   exact ⟨ret_int H.out, rfl⟩

set_option maxHeartbeats 400000 in
theorem refOf (s : ByteArray) (w : World) (hs : s.size ≤ maxLen) :
  Calls Tryz.prog 61 #[.string s] w fun e w' => e = .returned (.int .u64 (of s.data.toList)) ∧ w = w' := by
 unfold maxLen at hs
 go_enter Tryz.func61, Tryz.ntmps61
 go_wp2
 go_loop [3, 4] (fun h i => ∃ k : Nat, k ≤ s.size ∧ i = .int .i64 k ∧ h = .int .u64 (of (s.data.toList.take k))) (fun _ i => s.size - (intOf i).toNat)
 case atStart => exact ⟨0, Nat.zero_le _, rfl, rfl⟩
 case round =>
  obtain ⟨k, hk, rfl, rfl⟩ := hrel
  have hu := of_U (s.data.toList.take k)
  by_cases hlt : k < s.size
  ·have H : Hid (of (s.data.toList.take (k + 1)) = IntKind.u64.wrap (IntKind.u64.wrap (bits .xor .u64 (of (s.data.toList.take k)) (IntKind.u64.wrap s[k].toNat) * 1099511627776) + IntKind.u64.wrap (bits .xor .u64 (of (s.data.toList.take k)) (IntKind.u64.wrap s[k].toNat) * 435))) := (of_next s k hlt).trans (halves _).symm
   go_wp2
   go_round
   case rel => exact ⟨k + 1, by omega, by go_num, by rw [H.out]⟩
   case measure => simp [intOf]; omega
  ·have H : Hid (of (s.data.toList.take k) = of s.data.toList) := of_all s k hlt
   go_wp2
   go_ret
   exact ⟨ret_int H.out, rfl⟩

set_option maxHeartbeats 400000 in
theorem hstripe (s : ByteArray) (n : Int) (w : World) (hs : s.size ≤ maxLen) (hn : n ≤ 9223372036854775807) :
  Calls Tryz.prog 69 #[.string s, .int .i64 n] w fun e w' => e = .returned (.int .i64 (stripe s.data.toList n : Nat)) ∧ w = w' := by
 by_cases h : n < 1
 ·have H := Lib.hid (stripe_none s.data.toList h)
  go_enter Tryz.func69, Tryz.ntmps69
  go_wp2_with fail
  go_ret
  exact ⟨ret_int (by rw [H.out]; rfl), rfl⟩
 ·have hu := of_U s.data.toList
  have h0 : 1 ≤ n := by omega
  have h1 : IntKind.u64.wrap n = n := by rw [IntKind.wrap_u64]; omega
  have h2 : (n == 0) = false := by simp; omega
  have H := Lib.hid (stripe_eq s.data.toList h0)
  have h3 : wrap64 (of s.data.toList % n) = of s.data.toList % n := by
   have := Int.emod_nonneg (of s.data.toList) (show n ≠ 0 by omega)
   have := Int.emod_lt_of_pos (of s.data.toList) (show 0 < n by omega)
   unfold wrap64; omega
  go_enter Tryz.func69, Tryz.ntmps69
  go_wp2_with fail
  refine (hof _ _ hs).mono ?_
  rintro e w' ⟨rfl, rfl⟩
  go_wp2_with fail
  go_ret
  exact ⟨ret_int (by rw [H.out]; exact h3), rfl⟩

set_option maxHeartbeats 400000 in
theorem refStripe (s : ByteArray) (n : Int) (w : World) (hs : s.size ≤ maxLen) (hn : n ≤ 9223372036854775807) :
  Calls Tryz.prog 34 #[.string s, .int .i64 n] w fun e w' => e = .returned (.int .i64 (stripe s.data.toList n : Nat)) ∧ w = w' := by
 by_cases h : n < 1
 ·have H := Lib.hid (stripe_none s.data.toList h)
  go_enter Tryz.func34, Tryz.ntmps34
  go_wp2_with fail
  go_ret
  exact ⟨ret_int (by rw [H.out]; rfl), rfl⟩
 ·have hu := of_U s.data.toList
  have h0 : 1 ≤ n := by omega
  have h1 : IntKind.u64.wrap n = n := by rw [IntKind.wrap_u64]; omega
  have h2 : (n == 0) = false := by simp; omega
  have H := Lib.hid (stripe_eq s.data.toList h0)
  have h3 : wrap64 (of s.data.toList % n) = of s.data.toList % n := by
   have := Int.emod_nonneg (of s.data.toList) (show n ≠ 0 by omega)
   have := Int.emod_lt_of_pos (of s.data.toList) (show 0 < n by omega)
   unfold wrap64; omega
  go_enter Tryz.func34, Tryz.ntmps34
  go_wp2_with fail
  refine (refOf _ _ hs).mono ?_
  rintro e w' ⟨rfl, rfl⟩
  go_wp2_with fail
  go_ret
  exact ⟨ret_int (by rw [H.out]; exact h3), rfl⟩

def okLen (n : Nat) : Bool := decide (1 ≤ n ∧ n ≤ 16)
theorem ret_bool {a b : Bool} (h : a = b) : Ending.returned (.bool a) = .returned (.bool b) := by rw [h]
set_option maxHeartbeats 400000 in
theorem right (s : ByteArray) (w : World) (hs : s.size ≤ maxLen) :
  Calls Tryz.prog 93 #[.string s] w fun e w' => e = .returned (.bool (okLen s.size)) ∧ w = w' := by
 unfold maxLen at hs
 by_cases h : 1 ≤ s.size
 ·by_cases h2 : s.size ≤ 16
  ·have H : Hid (okLen s.size = true) := by show _ = _; simp [okLen]; omega
   have d1 : decide (s.size ≤ 16) = true := by simp; omega
   have d2 : decide ((s.size : Int) ≤ 16) = true := by simp; omega
   go_enter Tryz.func93, Tryz.ntmps93
   go_wp2_with fail
   go_ret
   exact ⟨ret_bool (by rw [H.out]), rfl⟩
  ·have H : Hid (okLen s.size = false) := by show _ = _; simp [okLen]; omega
   have d1 : decide (s.size ≤ 16) = false := by simp; omega
   have d2 : decide ((s.size : Int) ≤ 16) = false := by simp; omega
   go_enter Tryz.func93, Tryz.ntmps93
   go_wp2_with fail
   go_ret
   exact ⟨ret_bool (by rw [H.out]), rfl⟩
 ·have H : Hid (okLen s.size = false) := by show _ = _; simp [okLen]; omega
  go_enter Tryz.func93, Tryz.ntmps93
  go_wp2_with fail
  go_ret
  exact ⟨ret_bool (by rw [H.out]), rfl⟩

end Hash
end Go.Proofs.YtohdlnefgieenaaGreat
namespace Go.Law
open Go.RowKit
structure OpW where
 kind : Int
 user : ByteArray
 id : Int
 st : Int
 pr : Int
 ttl : Int
 A : Option Addr
 c : Nat
 us : List ByteArray
def OpW.v (q : OpW) : OpV := ⟨q.kind, q.user, q.id, q.st, q.pr, q.ttl, .slice q.A q.us.length q.c⟩
structure OpW.In (q : OpW) (w : World) : Prop where
 us : Seq w 0 w.heap.size q.A (q.us.map .string)
 len : q.us.length ≤ maxLen
 size : ∀ u ∈ q.us, u.size ≤ maxLen
 user : q.user.size ≤ maxLen
 ttl : 0 ≤ q.ttl ∧ q.ttl ≤ 18446744073709551615
theorem OpW.In.below {q : OpW} {w w' : World} (h : q.In w) (hb : Below w.heap.size w w') : q.In w' := ⟨(h.us.below hb).more hb.size, h.len, h.size, h.user, h.ttl⟩
end Go.Law
namespace Go.Proofs.YtohdlnefgieenaaGreat
open Go.RowKit
namespace Mod
open Go.Law
abbrev nameB (u : ByteArray) : Bool := Hash.okLen u.size
abbrev idB (k : Int) : Bool := decide (0 ≤ k) && decide (k ≤ 255)
def goodB (q : OpW) : Bool :=
 if q.kind = 1 then nameB q.user && (idB q.id && (decide (1 ≤ q.st) && decide (q.st ≤ 9)) && (decide (0 ≤ q.pr) && decide (q.pr ≤ 9)))
 else if q.kind = 2 ∨ q.kind = 3 then nameB q.user && idB q.id
 else if q.kind = 4 ∨ q.kind = 6 ∨ q.kind = 7 then nameB q.user
 else if q.kind = 5 then (decide (1 ≤ q.us.length) && decide (q.us.length ≤ 8)) && q.us.all nameB
 else decide (q.kind = 8 ∨ q.kind = 9)
set_option maxHeartbeats 400000 in
theorem within (n a b : Int) (r : Bool) (hr : (decide (a ≤ n) && decide (n ≤ b)) = r) (w : World) :
  Calls Tryz.prog 24 #[.int .i64 n, .int .i64 a, .int .i64 b] w fun e w' => e = .returned (.bool r) ∧ w = w' := by
 subst hr
 cases h1 : decide (a ≤ n) <;>
 ·go_enter Tryz.func24, Tryz.ntmps24
  go_wp2
  go_ret
  exact ⟨by simp, rfl⟩
set_option maxHeartbeats 400000 in
theorem wrong (u : ByteArray) (w : World) (hs : u.size ≤ maxLen) {r : Bool} (hr : (!nameB u) = r) :
  Calls Tryz.prog 96 #[.string u] w fun e w' => e = .returned (.bool r) ∧ w = w' := by
 subst hr
 go_enter Tryz.func96, Tryz.ntmps96
 go_wp2_with fail
 refine (Hash.right u _ hs).mono ?_
 rintro e w' ⟨rfl, rfl⟩
 go_wp2_with fail
 go_ret
 exact ⟨rfl, rfl⟩
set_option maxRecDepth 100000 in
set_option maxHeartbeats 1600000 in
theorem indexFunc {w : World} {A : Option Addr} {us : List ByteArray} {c : Nat} (hs : Seq w 0 w.heap.size A (us.map .string)) (hl : us.length ≤ maxLen) (hz : ∀ u ∈ us, u.size ≤ maxLen) :
  Calls Tryz.prog 111 #[.slice A us.length c, .func (.func 96) #[] #[]] w fun e w' => (∃ i : Int, e = .returned (.int .i64 i) ∧ decide (0 ≤ i) = !us.all nameB) ∧ w = w' := by
 have HS := Lib.hid hs
 have HZ := Lib.hid hz
 unfold maxLen at hl
 clear hs hz
 go_enter Tryz.func111, Tryz.ntmps111
 go_wp2_with fail
 go_loop [8] (fun i => ∃ j : Nat, j ≤ us.length ∧ i = .int .i64 j ∧ (us.take j).all nameB = true) (fun i => us.length - (intOf i).toNat)
 case atStart => exact ⟨0, Nat.zero_le _, rfl, by simp⟩
 case round =>
  obtain ⟨j, hj, rfl, ha⟩ := hrel
  have HA := Lib.hid ha
  clear ha
  by_cases hlt : j < us.length
  ·obtain ⟨b, off, rfl, _, hb, c0⟩ := HS.out.str hlt
   have HT : Hid ((us.take (j + 1)).all nameB = ((us.take j).all nameB && nameB us[j])) := by show _ = _; rw [List.take_succ_eq_append_getElem hlt, List.all_append]; simp
   have HM := Lib.hid (List.getElem_mem hlt)
   have HZ1 := Lib.hid (HZ.out _ HM.out)
   generalize us[j] = u at *
   go_wp2_with fail
   refine (wrong u _ HZ1.out rfl).mono ?_
   rintro e w' ⟨rfl, rfl⟩
   cases hu : nameB u with
   | false =>
     have HE : Hid (us.all nameB = false) := by show _ = _; rw [List.all_eq_false]; exact ⟨u, HM.out, by simpa using hu⟩
     go_wp2_with fail
     go_ret
     exact ⟨⟨(j : Int), rfl, by rw [HE.out]; simp⟩, rfl⟩
   | true =>
     go_wp2_with fail
     go_round
     case rel => exact ⟨j + 1, by omega, by go_num, by rw [HT.out, HA.out, hu]; rfl⟩
     case measure => simp [intOf]; omega
  ·have e1 : us.take j = us := List.take_of_length_le (by omega)
   rw [e1] at HA
   go_wp2_with fail
   go_ret
   exact ⟨⟨-1, rfl, by rw [HA.out]; rfl⟩, rfl⟩
set_option maxRecDepth 100000 in
set_option maxHeartbeats 1600000 in
theorem contains {w : World} {A : Option Addr} {us : List ByteArray} {c : Nat} (hs : Seq w 0 w.heap.size A (us.map .string)) (hl : us.length ≤ maxLen) (hz : ∀ u ∈ us, u.size ≤ maxLen) {r : Bool} (hr : (!us.all nameB) = r) :
  Calls Tryz.prog 95 #[.slice A us.length c, .func (.func 96) #[] #[]] w fun e w' => e = .returned (.bool r) ∧ w = w' := by
 subst hr
 have HI := Lib.hid (indexFunc (c := c) hs hl hz)
 clear hs hz
 go_enter Tryz.func95, Tryz.ntmps95
 go_wp2_with fail
 refine HI.out.mono ?_
 rintro e w' ⟨⟨i, rfl, hi⟩, rfl⟩
 go_wp2_with fail
 go_ret
 exact ⟨by rw [← hi]; rfl, rfl⟩
set_option maxRecDepth 100000 in
set_option maxHeartbeats 1600000 in
theorem good1 (user : ByteArray) (id st pr ttl : Int) (A : Option Addr) (c : Nat) (us : List ByteArray) {w : World} (hu : user.size ≤ maxLen) {r : Bool} (hr : (nameB user && (idB id && (decide (1 ≤ st) && decide (st ≤ 9)) && (decide (0 ≤ pr) && decide (pr ≤ 9)))) = r) :
  Calls Tryz.prog 72 #[.agg #[.int .i64 1, .string user, .int .i64 id, .int .i64 st, .int .i64 pr, .int .u64 ttl, .slice A us.length c]] w fun e w' => e = .returned (.bool r) ∧ Below w.heap.size w w' := by
 subst hr
 cases hn : nameB user with
 | false =>
   go_enter Tryz.func72, Tryz.ntmps72
   go_wp2_with fail
   refine (Hash.right user _ hu).mono ?_
   rintro e w' ⟨rfl, rfl⟩
   rw [show Hash.okLen user.size = false from hn]
   go_wp2_with fail
   go_ret
   exact ⟨rfl, (Below.refl _ w).alloc (Nat.le_refl _) _⟩
 | true =>
   go_enter Tryz.func72, Tryz.ntmps72
   go_wp2_with fail
   refine (Hash.right user _ hu).mono ?_
   rintro e w' ⟨rfl, rfl⟩
   rw [show Hash.okLen user.size = true from hn]
   go_wp2_with fail
   refine (Sess.right id st pr _).mono ?_
   rintro e w' ⟨rfl, rfl⟩
   go_wp2_with fail
   go_ret
   exact ⟨rfl, (Below.refl _ w).alloc (Nat.le_refl _) _⟩
set_option maxRecDepth 100000 in
set_option maxHeartbeats 1600000 in
theorem good2 (user : ByteArray) (id st pr ttl : Int) (A : Option Addr) (c : Nat) (us : List ByteArray) {w : World} (hu : user.size ≤ maxLen) {r : Bool} (hr : (nameB user && idB id) = r) :
  Calls Tryz.prog 72 #[.agg #[.int .i64 2, .string user, .int .i64 id, .int .i64 st, .int .i64 pr, .int .u64 ttl, .slice A us.length c]] w fun e w' => e = .returned (.bool r) ∧ Below w.heap.size w w' := by
 subst hr
 cases hn : nameB user with
 | false =>
   go_enter Tryz.func72, Tryz.ntmps72
   go_wp2_with fail
   refine (Hash.right user _ hu).mono ?_
   rintro e w' ⟨rfl, rfl⟩
   rw [show Hash.okLen user.size = false from hn]
   go_wp2_with fail
   go_ret
   exact ⟨rfl, (Below.refl _ w).alloc (Nat.le_refl _) _⟩
 | true =>
   go_enter Tryz.func72, Tryz.ntmps72
   go_wp2_with fail
   refine (Hash.right user _ hu).mono ?_
   rintro e w' ⟨rfl, rfl⟩
   rw [show Hash.okLen user.size = true from hn]
   go_wp2_with fail
   refine (within id 0 255 _ rfl _).mono ?_
   rintro e w' ⟨rfl, rfl⟩
   go_wp2_with fail
   go_ret
   exact ⟨rfl, (Below.refl _ w).alloc (Nat.le_refl _) _⟩
set_option maxRecDepth 100000 in
set_option maxHeartbeats 1600000 in
theorem good3 (user : ByteArray) (id st pr ttl : Int) (A : Option Addr) (c : Nat) (us : List ByteArray) {w : World} (hu : user.size ≤ maxLen) {r : Bool} (hr : (nameB user && idB id) = r) :
  Calls Tryz.prog 72 #[.agg #[.int .i64 3, .string user, .int .i64 id, .int .i64 st, .int .i64 pr, .int .u64 ttl, .slice A us.length c]] w fun e w' => e = .returned (.bool r) ∧ Below w.heap.size w w' := by
 subst hr
 cases hn : nameB user with
 | false =>
   go_enter Tryz.func72, Tryz.ntmps72
   go_wp2_with fail
   refine (Hash.right user _ hu).mono ?_
   rintro e w' ⟨rfl, rfl⟩
   rw [show Hash.okLen user.size = false from hn]
   go_wp2_with fail
   go_ret
   exact ⟨rfl, (Below.refl _ w).alloc (Nat.le_refl _) _⟩
 | true =>
   go_enter Tryz.func72, Tryz.ntmps72
   go_wp2_with fail
   refine (Hash.right user _ hu).mono ?_
   rintro e w' ⟨rfl, rfl⟩
   rw [show Hash.okLen user.size = true from hn]
   go_wp2_with fail
   refine (within id 0 255 _ rfl _).mono ?_
   rintro e w' ⟨rfl, rfl⟩
   go_wp2_with fail
   go_ret
   exact ⟨rfl, (Below.refl _ w).alloc (Nat.le_refl _) _⟩
set_option maxRecDepth 100000 in
set_option maxHeartbeats 1600000 in
theorem good4 (user : ByteArray) (id st pr ttl : Int) (A : Option Addr) (c : Nat) (us : List ByteArray) {w : World} (hu : user.size ≤ maxLen) {r : Bool} (hr : (nameB user) = r) :
  Calls Tryz.prog 72 #[.agg #[.int .i64 4, .string user, .int .i64 id, .int .i64 st, .int .i64 pr, .int .u64 ttl, .slice A us.length c]] w fun e w' => e = .returned (.bool r) ∧ Below w.heap.size w w' := by
 have HR := Lib.hid hr
 clear hr
 go_enter Tryz.func72, Tryz.ntmps72
 go_wp2_with fail
 refine (Hash.right user _ hu).mono ?_
 rintro e w' ⟨rfl, rfl⟩
 rw [show Hash.okLen user.size = r from HR.out]
 go_wp2_with fail
 go_ret
 exact ⟨rfl, (Below.refl _ w).alloc (Nat.le_refl _) _⟩
set_option maxRecDepth 100000 in
set_option maxHeartbeats 1600000 in
theorem good6 (user : ByteArray) (id st pr ttl : Int) (A : Option Addr) (c : Nat) (us : List ByteArray) {w : World} (hu : user.size ≤ maxLen) {r : Bool} (hr : (nameB user) = r) :
  Calls Tryz.prog 72 #[.agg #[.int .i64 6, .string user, .int .i64 id, .int .i64 st, .int .i64 pr, .int .u64 ttl, .slice A us.length c]] w fun e w' => e = .returned (.bool r) ∧ Below w.heap.size w w' := by
 have HR := Lib.hid hr
 clear hr
 go_enter Tryz.func72, Tryz.ntmps72
 go_wp2_with fail
 refine (Hash.right user _ hu).mono ?_
 rintro e w' ⟨rfl, rfl⟩
 rw [show Hash.okLen user.size = r from HR.out]
 go_wp2_with fail
 go_ret
 exact ⟨rfl, (Below.refl _ w).alloc (Nat.le_refl _) _⟩
set_option maxRecDepth 100000 in
set_option maxHeartbeats 1600000 in
theorem good7 (user : ByteArray) (id st pr ttl : Int) (A : Option Addr) (c : Nat) (us : List ByteArray) {w : World} (hu : user.size ≤ maxLen) {r : Bool} (hr : (nameB user) = r) :
  Calls Tryz.prog 72 #[.agg #[.int .i64 7, .string user, .int .i64 id, .int .i64 st, .int .i64 pr, .int .u64 ttl, .slice A us.length c]] w fun e w' => e = .returned (.bool r) ∧ Below w.heap.size w w' := by
 have HR := Lib.hid hr
 clear hr
 go_enter Tryz.func72, Tryz.ntmps72
 go_wp2_with fail
 refine (Hash.right user _ hu).mono ?_
 rintro e w' ⟨rfl, rfl⟩
 rw [show Hash.okLen user.size = r from HR.out]
 go_wp2_with fail
 go_ret
 exact ⟨rfl, (Below.refl _ w).alloc (Nat.le_refl _) _⟩
set_option maxRecDepth 100000 in
set_option maxHeartbeats 1600000 in
theorem good5 (user : ByteArray) (id st pr ttl : Int) (A : Option Addr) (c : Nat) (us : List ByteArray) {w : World} (_hu : user.size ≤ maxLen) (hs : Seq w 0 w.heap.size A (us.map .string)) (hl : us.length ≤ maxLen) (hz : ∀ u ∈ us, u.size ≤ maxLen) {r : Bool} (hr : ((decide (1 ≤ us.length) && decide (us.length ≤ 8)) && us.all nameB) = r) :
  Calls Tryz.prog 72 #[.agg #[.int .i64 5, .string user, .int .i64 id, .int .i64 st, .int .i64 pr, .int .u64 ttl, .slice A us.length c]] w fun e w' => e = .returned (.bool r) ∧ Below w.heap.size w w' := by
 have HS := Lib.hid hs
 have HZ := Lib.hid hz
 clear hs hz
 subst hr
 have hd : (decide ((1 : Int) ≤ (us.length : Int)) && decide ((us.length : Int) ≤ 8)) = (decide (1 ≤ us.length) && decide (us.length ≤ 8)) := by rw [Bool.eq_iff_iff]; simp; omega
 cases hn : (decide (1 ≤ us.length) && decide (us.length ≤ 8)) with
 | false =>
   rw [hn] at hd
   go_enter Tryz.func72, Tryz.ntmps72
   go_wp2_with fail
   refine (within us.length 1 8 false hd _).mono ?_
   rintro e w' ⟨rfl, rfl⟩
   go_wp2_with fail
   go_ret
   exact ⟨rfl, (Below.refl _ w).alloc (Nat.le_refl _) _⟩
 | true =>
   rw [hn] at hd
   go_enter Tryz.func72, Tryz.ntmps72
   go_wp2_with fail
   refine (within us.length 1 8 true hd _).mono ?_
   rintro e w' ⟨rfl, rfl⟩
   go_wp2_with fail
   refine (contains ((HS.out.alloc (Nat.le_refl _) _).more (by simp)) hl HZ.out rfl).mono ?_
   rintro e w' ⟨rfl, rfl⟩
   go_wp2_with fail
   go_ret
   exact ⟨by simp, (Below.refl _ w).alloc (Nat.le_refl _) _⟩
set_option maxRecDepth 100000 in
set_option maxHeartbeats 1600000 in
theorem good8 (user : ByteArray) (id st pr ttl : Int) (A : Option Addr) (c : Nat) (us : List ByteArray) {w : World} (_hu : user.size ≤ maxLen) {r : Bool} (hr : true = r) :
  Calls Tryz.prog 72 #[.agg #[.int .i64 8, .string user, .int .i64 id, .int .i64 st, .int .i64 pr, .int .u64 ttl, .slice A us.length c]] w fun e w' => e = .returned (.bool r) ∧ Below w.heap.size w w' := by
 subst hr
 go_enter Tryz.func72, Tryz.ntmps72
 go_wp2_with fail
 go_ret
 exact ⟨rfl, (Below.refl _ w).alloc (Nat.le_refl _) _⟩
set_option maxRecDepth 100000 in
set_option maxHeartbeats 1600000 in
theorem good9 (user : ByteArray) (id st pr ttl : Int) (A : Option Addr) (c : Nat) (us : List ByteArray) {w : World} (_hu : user.size ≤ maxLen) {r : Bool} (hr : true = r) :
  Calls Tryz.prog 72 #[.agg #[.int .i64 9, .string user, .int .i64 id, .int .i64 st, .int .i64 pr, .int .u64 ttl, .slice A us.length c]] w fun e w' => e = .returned (.bool r) ∧ Below w.heap.size w w' := by
 subst hr
 go_enter Tryz.func72, Tryz.ntmps72
 go_wp2_with fail
 go_ret
 exact ⟨rfl, (Below.refl _ w).alloc (Nat.le_refl _) _⟩
set_option maxRecDepth 100000 in
set_option maxHeartbeats 1600000 in
theorem good0 (kind : Int) (hk : ¬ (1 ≤ kind ∧ kind ≤ 9)) (user : ByteArray) (id st pr ttl : Int) (A : Option Addr) (c : Nat) (us : List ByteArray) {w : World} :
  Calls Tryz.prog 72 #[.agg #[.int .i64 kind, .string user, .int .i64 id, .int .i64 st, .int .i64 pr, .int .u64 ttl, .slice A us.length c]] w fun e w' => e = .returned (.bool false) ∧ Below w.heap.size w w' := by
 have k1 : (kind == 1) = false := by simp; omega
 have k2 : (kind == 2) = false := by simp; omega
 have k3 : (kind == 3) = false := by simp; omega
 have k4 : (kind == 4) = false := by simp; omega
 have k5 : (kind == 5) = false := by simp; omega
 have k6 : (kind == 6) = false := by simp; omega
 have k7 : (kind == 7) = false := by simp; omega
 have k8 : (kind == 8) = false := by simp; omega
 have k9 : (kind == 9) = false := by simp; omega
 go_enter Tryz.func72, Tryz.ntmps72
 go_wp2_with fail
 go_ret
 exact ⟨rfl, (Below.refl _ w).alloc (Nat.le_refl _) _⟩
theorem good (q : OpW) {w : World} (h : q.In w) {r : Bool} (hr : goodB q = r) : Calls Tryz.prog 72 #[q.v.val] w fun e w' => e = .returned (.bool r) ∧ Below w.heap.size w w' := by
 obtain ⟨kind, user, id, st, pr, ttl, A, c, us⟩ := q
 obtain ⟨hs, hl, hz, hu, _⟩ := h
 simp only at hs hl hz hu
 unfold goodB at hr
 simp only at hr
 show Calls _ _ #[.agg #[.int .i64 kind, .string user, .int .i64 id, .int .i64 st, .int .i64 pr, .int .u64 ttl, .slice A us.length c]] _ _
 by_cases hk : 1 ≤ kind ∧ kind ≤ 9
 ·have h9 : kind = 1 ∨ kind = 2 ∨ kind = 3 ∨ kind = 4 ∨ kind = 5 ∨ kind = 6 ∨ kind = 7 ∨ kind = 8 ∨ kind = 9 := by omega
  rcases h9 with rfl | rfl | rfl | rfl | rfl | rfl | rfl | rfl | rfl
  ·exact good1 user id st pr ttl A c us hu (by simpa using hr)
  ·exact good2 user id st pr ttl A c us hu (by simpa using hr)
  ·exact good3 user id st pr ttl A c us hu (by simpa using hr)
  ·exact good4 user id st pr ttl A c us hu (by simpa using hr)
  ·exact good5 user id st pr ttl A c us hu hs hl hz (by simpa using hr)
  ·exact good6 user id st pr ttl A c us hu (by simpa using hr)
  ·exact good7 user id st pr ttl A c us hu (by simpa using hr)
  ·exact good8 user id st pr ttl A c us hu (by simpa using hr)
  ·exact good9 user id st pr ttl A c us hu (by simpa using hr)
 ·rw [if_neg (by omega), if_neg (by omega), if_neg (by omega), if_neg (by omega), decide_eq_false (by omega)] at hr
  subst hr
  exact good0 kind hk user id st pr ttl A c us
set_option maxHeartbeats 400000 in
theorem bad (q : OpW) {w : World} (h : q.In w) {r : Bool} (hr : (!goodB q) = r) : Calls Tryz.prog 45 #[q.v.val] w fun e w' => e = .returned (.bool r) ∧ Below w.heap.size w w' := by
 subst hr
 have hb := (Below.refl w.heap.size w).alloc (Nat.le_refl _) (.cells #[.int .i64 q.kind, .string q.user, .int .i64 q.id, .int .i64 q.st, .int .i64 q.pr, .int .u64 q.ttl, .slice q.A q.us.length q.c] 37)
 have HG := Lib.hid (good q (h.below hb) rfl)
 have HB := Lib.hid hb
 clear h hb
 unfold OpV.val OpW.v at *
 simp only at *
 go_enter Tryz.func45, Tryz.ntmps45
 go_wp2_with fail
 refine HG.out.mono ?_
 rintro e w' ⟨rfl, hb⟩
 have HB2 := Lib.hid (HB.out.trans (hb.mono HB.out.size))
 clear hb
 go_wp2_with fail
 go_ret
 exact ⟨rfl, HB2.out⟩
end Mod
end Go.Proofs.YtohdlnefgieenaaGreat
