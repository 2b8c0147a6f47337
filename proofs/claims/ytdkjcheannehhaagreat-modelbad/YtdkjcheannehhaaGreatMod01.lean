/-
  What the calls of the model (layer 10) that look at an op come to: within, wrong, good, Bad.
-/
import Derived.Test.YtdkjcheannehhaaGreatBook06
import Derived.Test.YtdkjcheannehhaaGreatHash01
import Derived.Deep.CutBlock
import Derived.Lib.QuietBelow
namespace Go.Law
open Go.RowKit
/-- an op that was opened: its users lie at an address -/
structure OpW where
  kind : Int
  user : ByteArray
  id : Int
  st : Int
  pr : Int
  ttl : Int
  A : Option Addr
  c : Nat
  us : List ByteArray
/-- what is asked, without where its users lie -/
def OpW.v (q : OpW) : OpV := ⟨q.kind, q.user, q.id, q.st, q.pr, q.ttl, .slice q.A q.us.length q.c⟩
structure OpW.In (q : OpW) (w : World) : Prop where
  us : Seq w 0 w.heap.size q.A (q.us.map .string)
  len : q.us.length ≤ maxLen
  size : ∀ u ∈ q.us, u.size ≤ maxLen
  user : q.user.size ≤ maxLen
  ttl : 0 ≤ q.ttl ∧ q.ttl ≤ 18446744073709551615
theorem OpW.In.below {q : OpW} {w w' : World} (h : q.In w) (hb : Below w.heap.size w w') : q.In w' := ⟨(h.us.below hb).more hb.size, h.len, h.size, h.user, h.ttl⟩
end Go.Law
namespace Go.Proofs.YtdkjcheannehhaaGreat
open Go.RowKit
namespace Mod
open Go.Law
abbrev nameB (u : ByteArray) : Bool := Hash.okLen u.size
abbrev idB (k : Int) : Bool := decide (0 ≤ k) && decide (k ≤ 255)
/-- an op that may be -/
def goodB (q : OpW) : Bool :=
  if q.kind = 1 then nameB q.user && (idB q.id && (decide (1 ≤ q.st) && decide (q.st ≤ 9)) && (decide (0 ≤ q.pr) && decide (q.pr ≤ 9)))
  else if q.kind = 2 ∨ q.kind = 3 then nameB q.user && idB q.id
  else if q.kind = 4 ∨ q.kind = 6 ∨ q.kind = 7 then nameB q.user
  else if q.kind = 5 then (decide (1 ≤ q.us.length) && decide (q.us.length ≤ 8)) && q.us.all nameB
  else decide (q.kind = 8 ∨ q.kind = 9)
set_option maxHeartbeats 400000 in
theorem within (n a b : Int) (r : Bool) (hr : (decide (a ≤ n) && decide (n ≤ b)) = r) (w : World) :
    Calls Tryz.prog 35 #[.int .i64 n, .int .i64 a, .int .i64 b] w fun e w' => e = .returned (.bool r) ∧ w = w' := by
  subst hr
  cases h1 : decide (a ≤ n) <;>
  · go_enter Tryz.func35, Tryz.ntmps35
    go_wp2
    go_ret
    exact ⟨by simp, rfl⟩
set_option maxHeartbeats 400000 in
theorem wrong (u : ByteArray) (w : World) (hs : u.size ≤ maxLen) {r : Bool} (hr : (!nameB u) = r) :
    Calls Tryz.prog 84 #[.string u] w fun e w' => e = .returned (.bool r) ∧ w = w' := by
  subst hr
  go_enter Tryz.func84, Tryz.ntmps84
  go_wp2_with fail
  refine (Hash.right u _ hs).mono ?_
  rintro e w' ⟨rfl, rfl⟩
  go_wp2_with fail
  go_ret
  exact ⟨rfl, rfl⟩
set_option maxRecDepth 100000 in
set_option maxHeartbeats 1600000 in
theorem indexFunc {w : World} {A : Option Addr} {us : List ByteArray} {c : Nat} (hs : Seq w 0 w.heap.size A (us.map .string)) (hl : us.length ≤ maxLen) (hz : ∀ u ∈ us, u.size ≤ maxLen) :
    Calls Tryz.prog 105 #[.slice A us.length c, .func (.func 84) #[] #[]] w fun e w' => (∃ i : Int, e = .returned (.int .i64 i) ∧ decide (0 ≤ i) = !us.all nameB) ∧ w = w' := by
  have HS := Lib.hid hs
  have HZ := Lib.hid hz
  unfold maxLen at hl
  clear hs hz
  go_enter Tryz.func105, Tryz.ntmps105
  go_wp2_with fail
  go_loop [8] (fun i => ∃ j : Nat, j ≤ us.length ∧ i = .int .i64 j ∧ (us.take j).all nameB = true) (fun i => us.length - (intOf i).toNat)
  case atStart => exact ⟨0, Nat.zero_le _, rfl, by simp⟩
  case round =>
    obtain ⟨j, hj, rfl, ha⟩ := hrel
    have HA := Lib.hid ha
    clear ha
    by_cases hlt : j < us.length
    · obtain ⟨b, off, rfl, _, hb, c0⟩ := HS.out.str hlt
      have HT : Hid ((us.take (j + 1)).all nameB = ((us.take j).all nameB && nameB us[j])) := by show _ = _; rw [List.take_succ_eq_append_getElem hlt, List.all_append]; simp
      have HM := Lib.hid (List.getElem_mem hlt)
      have HZ1 := Lib.hid (HZ.out _ HM.out)
      generalize us[j] = u at *
      go_wp2_with fail
      refine (wrong u _ HZ1.out rfl).mono ?_
      rintro e w' ⟨rfl, rfl⟩
      cases hu : nameB u with
      | false =>
        have HE : Hid (us.all nameB = false) := by show _ = _; rw [List.all_eq_false]; exact ⟨u, HM.out, by simpa using hu⟩
        go_wp2_with fail
        go_ret
        exact ⟨⟨(j : Int), rfl, by rw [HE.out]; simp⟩, rfl⟩
      | true =>
        go_wp2_with fail
        go_round
        case rel => exact ⟨j + 1, by omega, by go_num, by rw [HT.out, HA.out, hu]; rfl⟩
        case measure => simp [intOf]; omega
    · have e1 : us.take j = us := List.take_of_length_le (by omega)
      rw [e1] at HA
      go_wp2_with fail
      go_ret
      exact ⟨⟨-1, rfl, by rw [HA.out]; rfl⟩, rfl⟩
set_option maxRecDepth 100000 in
set_option maxHeartbeats 1600000 in
theorem contains {w : World} {A : Option Addr} {us : List ByteArray} {c : Nat} (hs : Seq w 0 w.heap.size A (us.map .string)) (hl : us.length ≤ maxLen) (hz : ∀ u ∈ us, u.size ≤ maxLen) {r : Bool} (hr : (!us.all nameB) = r) :
    Calls Tryz.prog 83 #[.slice A us.length c, .func (.func 84) #[] #[]] w fun e w' => e = .returned (.bool r) ∧ w = w' := by
  subst hr
  have HI := Lib.hid (indexFunc (c := c) hs hl hz)
  clear hs hz
  go_enter Tryz.func83, Tryz.ntmps83
  go_wp2_with fail
  refine HI.out.mono ?_
  rintro e w' ⟨⟨i, rfl, hi⟩, rfl⟩
  go_wp2_with fail
  go_ret
  exact ⟨by rw [← hi]; rfl, rfl⟩
set_option maxRecDepth 100000 in
set_option maxHeartbeats 1600000 in
theorem good1 (user : ByteArray) (id st pr ttl : Int) (A : Option Addr) (c : Nat) (us : List ByteArray) {w : World} (hu : user.size ≤ maxLen) {r : Bool} (hr : (nameB user && (idB id && (decide (1 ≤ st) && decide (st ≤ 9)) && (decide (0 ≤ pr) && decide (pr ≤ 9)))) = r) :
    Calls Tryz.prog 55 #[.agg #[.int .i64 1, .string user, .int .i64 id, .int .i64 st, .int .i64 pr, .int .u64 ttl, .slice A us.length c]] w fun e w' => e = .returned (.bool r) ∧ Below w.heap.size w w' := by
  subst hr
  cases hn : nameB user with
  | false =>
    go_enter Tryz.func55, Tryz.ntmps55
    go_wp2_with fail
    refine (Hash.right user _ hu).mono ?_
    rintro e w' ⟨rfl, rfl⟩
    rw [show Hash.okLen user.size = false from hn]
    go_wp2_with fail
    go_ret
    exact ⟨rfl, (Below.refl _ w).alloc (Nat.le_refl _) _⟩
  | true =>
    go_enter Tryz.func55, Tryz.ntmps55
    go_wp2_with fail
    refine (Hash.right user _ hu).mono ?_
    rintro e w' ⟨rfl, rfl⟩
    rw [show Hash.okLen user.size = true from hn]
    go_wp2_with fail
    refine (Sess.right id st pr _).mono ?_
    rintro e w' ⟨rfl, rfl⟩
    go_wp2_with fail
    go_ret
    exact ⟨rfl, (Below.refl _ w).alloc (Nat.le_refl _) _⟩
set_option maxRecDepth 100000 in
set_option maxHeartbeats 1600000 in
theorem good2 (user : ByteArray) (id st pr ttl : Int) (A : Option Addr) (c : Nat) (us : List ByteArray) {w : World} (hu : user.size ≤ maxLen) {r : Bool} (hr : (nameB user && idB id) = r) :
    Calls Tryz.prog 55 #[.agg #[.int .i64 2, .string user, .int .i64 id, .int .i64 st, .int .i64 pr, .int .u64 ttl, .slice A us.length c]] w fun e w' => e = .returned (.bool r) ∧ Below w.heap.size w w' := by
  subst hr
  cases hn : nameB user with
  | false =>
    go_enter Tryz.func55, Tryz.ntmps55
    go_wp2_with fail
    refine (Hash.right user _ hu).mono ?_
    rintro e w' ⟨rfl, rfl⟩
    rw [show Hash.okLen user.size = false from hn]
    go_wp2_with fail
    go_ret
    exact ⟨rfl, (Below.refl _ w).alloc (Nat.le_refl _) _⟩
  | true =>
    go_enter Tryz.func55, Tryz.ntmps55
    go_wp2_with fail
    refine (Hash.right user _ hu).mono ?_
    rintro e w' ⟨rfl, rfl⟩
    rw [show Hash.okLen user.size = true from hn]
    go_wp2_with fail
    refine (within id 0 255 _ rfl _).mono ?_
    rintro e w' ⟨rfl, rfl⟩
    go_wp2_with fail
    go_ret
    exact ⟨rfl, (Below.refl _ w).alloc (Nat.le_refl _) _⟩
set_option maxRecDepth 100000 in
set_option maxHeartbeats 1600000 in
theorem good3 (user : ByteArray) (id st pr ttl : Int) (A : Option Addr) (c : Nat) (us : List ByteArray) {w : World} (hu : user.size ≤ maxLen) {r : Bool} (hr : (nameB user && idB id) = r) :
    Calls Tryz.prog 55 #[.agg #[.int .i64 3, .string user, .int .i64 id, .int .i64 st, .int .i64 pr, .int .u64 ttl, .slice A us.length c]] w fun e w' => e = .returned (.bool r) ∧ Below w.heap.size w w' := by
  subst hr
  cases hn : nameB user with
  | false =>
    go_enter Tryz.func55, Tryz.ntmps55
    go_wp2_with fail
    refine (Hash.right user _ hu).mono ?_
    rintro e w' ⟨rfl, rfl⟩
    rw [show Hash.okLen user.size = false from hn]
    go_wp2_with fail
    go_ret
    exact ⟨rfl, (Below.refl _ w).alloc (Nat.le_refl _) _⟩
  | true =>
    go_enter Tryz.func55, Tryz.ntmps55
    go_wp2_with fail
    refine (Hash.right user _ hu).mono ?_
    rintro e w' ⟨rfl, rfl⟩
    rw [show Hash.okLen user.size = true from hn]
    go_wp2_with fail
    refine (within id 0 255 _ rfl _).mono ?_
    rintro e w' ⟨rfl, rfl⟩
    go_wp2_with fail
    go_ret
    exact ⟨rfl, (Below.refl _ w).alloc (Nat.le_refl _) _⟩
set_option maxRecDepth 100000 in
set_option maxHeartbeats 1600000 in
theorem good4 (user : ByteArray) (id st pr ttl : Int) (A : Option Addr) (c : Nat) (us : List ByteArray) {w : World} (hu : user.size ≤ maxLen) {r : Bool} (hr : (nameB user) = r) :
    Calls Tryz.prog 55 #[.agg #[.int .i64 4, .string user, .int .i64 id, .int .i64 st, .int .i64 pr, .int .u64 ttl, .slice A us.length c]] w fun e w' => e = .returned (.bool r) ∧ Below w.heap.size w w' := by
  have HR := Lib.hid hr
  clear hr
  go_enter Tryz.func55, Tryz.ntmps55
  go_wp2_with fail
  refine (Hash.right user _ hu).mono ?_
  rintro e w' ⟨rfl, rfl⟩
  rw [show Hash.okLen user.size = r from HR.out]
  go_wp2_with fail
  go_ret
  exact ⟨rfl, (Below.refl _ w).alloc (Nat.le_refl _) _⟩
set_option maxRecDepth 100000 in
set_option maxHeartbeats 1600000 in
theorem good6 (user : ByteArray) (id st pr ttl : Int) (A : Option Addr) (c : Nat) (us : List ByteArray) {w : World} (hu : user.size ≤ maxLen) {r : Bool} (hr : (nameB user) = r) :
    Calls Tryz.prog 55 #[.agg #[.int .i64 6, .string user, .int .i64 id, .int .i64 st, .int .i64 pr, .int .u64 ttl, .slice A us.length c]] w fun e w' => e = .returned (.bool r) ∧ Below w.heap.size w w' := by
  have HR := Lib.hid hr
  clear hr
  go_enter Tryz.func55, Tryz.ntmps55
  go_wp2_with fail
  refine (Hash.right user _ hu).mono ?_
  rintro e w' ⟨rfl, rfl⟩
  rw [show Hash.okLen user.size = r from HR.out]
  go_wp2_with fail
  go_ret
  exact ⟨rfl, (Below.refl _ w).alloc (Nat.le_refl _) _⟩
set_option maxRecDepth 100000 in
set_option maxHeartbeats 1600000 in
theorem good7 (user : ByteArray) (id st pr ttl : Int) (A : Option Addr) (c : Nat) (us : List ByteArray) {w : World} (hu : user.size ≤ maxLen) {r : Bool} (hr : (nameB user) = r) :
    Calls Tryz.prog 55 #[.agg #[.int .i64 7, .string user, .int .i64 id, .int .i64 st, .int .i64 pr, .int .u64 ttl, .slice A us.length c]] w fun e w' => e = .returned (.bool r) ∧ Below w.heap.size w w' := by
  have HR := Lib.hid hr
  clear hr
  go_enter Tryz.func55, Tryz.ntmps55
  go_wp2_with fail
  refine (Hash.right user _ hu).mono ?_
  rintro e w' ⟨rfl, rfl⟩
  rw [show Hash.okLen user.size = r from HR.out]
  go_wp2_with fail
  go_ret
  exact ⟨rfl, (Below.refl _ w).alloc (Nat.le_refl _) _⟩
set_option maxRecDepth 100000 in
set_option maxHeartbeats 1600000 in
theorem good5 (user : ByteArray) (id st pr ttl : Int) (A : Option Addr) (c : Nat) (us : List ByteArray) {w : World} (_hu : user.size ≤ maxLen) (hs : Seq w 0 w.heap.size A (us.map .string)) (hl : us.length ≤ maxLen) (hz : ∀ u ∈ us, u.size ≤ maxLen) {r : Bool} (hr : ((decide (1 ≤ us.length) && decide (us.length ≤ 8)) && us.all nameB) = r) :
    Calls Tryz.prog 55 #[.agg #[.int .i64 5, .string user, .int .i64 id, .int .i64 st, .int .i64 pr, .int .u64 ttl, .slice A us.length c]] w fun e w' => e = .returned (.bool r) ∧ Below w.heap.size w w' := by
  have HS := Lib.hid hs
  have HZ := Lib.hid hz
  clear hs hz
  subst hr
  have hd : (decide ((1 : Int) ≤ (us.length : Int)) && decide ((us.length : Int) ≤ 8)) = (decide (1 ≤ us.length) && decide (us.length ≤ 8)) := by rw [Bool.eq_iff_iff]; simp; omega
  cases hn : (decide (1 ≤ us.length) && decide (us.length ≤ 8)) with
  | false =>
    rw [hn] at hd
    go_enter Tryz.func55, Tryz.ntmps55
    go_wp2_with fail
    refine (within us.length 1 8 false hd _).mono ?_
    rintro e w' ⟨rfl, rfl⟩
    go_wp2_with fail
    go_ret
    exact ⟨rfl, (Below.refl _ w).alloc (Nat.le_refl _) _⟩
  | true =>
    rw [hn] at hd
    go_enter Tryz.func55, Tryz.ntmps55
    go_wp2_with fail
    refine (within us.length 1 8 true hd _).mono ?_
    rintro e w' ⟨rfl, rfl⟩
    go_wp2_with fail
    refine (contains ((HS.out.alloc (Nat.le_refl _) _).more (by simp)) hl HZ.out rfl).mono ?_
    rintro e w' ⟨rfl, rfl⟩
    go_wp2_with fail
    go_ret
    exact ⟨by simp, (Below.refl _ w).alloc (Nat.le_refl _) _⟩
set_option maxRecDepth 100000 in
set_option maxHeartbeats 1600000 in
theorem good8 (user : ByteArray) (id st pr ttl : Int) (A : Option Addr) (c : Nat) (us : List ByteArray) {w : World} (_hu : user.size ≤ maxLen) {r : Bool} (hr : true = r) :
    Calls Tryz.prog 55 #[.agg #[.int .i64 8, .string user, .int .i64 id, .int .i64 st, .int .i64 pr, .int .u64 ttl, .slice A us.length c]] w fun e w' => e = .returned (.bool r) ∧ Below w.heap.size w w' := by
  subst hr
  go_enter Tryz.func55, Tryz.ntmps55
  go_wp2_with fail
  go_ret
  exact ⟨rfl, (Below.refl _ w).alloc (Nat.le_refl _) _⟩
set_option maxRecDepth 100000 in
set_option maxHeartbeats 1600000 in
theorem good9 (user : ByteArray) (id st pr ttl : Int) (A : Option Addr) (c : Nat) (us : List ByteArray) {w : World} (_hu : user.size ≤ maxLen) {r : Bool} (hr : true = r) :
    Calls Tryz.prog 55 #[.agg #[.int .i64 9, .string user, .int .i64 id, .int .i64 st, .int .i64 pr, .int .u64 ttl, .slice A us.length c]] w fun e w' => e = .returned (.bool r) ∧ Below w.heap.size w w' := by
  subst hr
  go_enter Tryz.func55, Tryz.ntmps55
  go_wp2_with fail
  go_ret
  exact ⟨rfl, (Below.refl _ w).alloc (Nat.le_refl _) _⟩
set_option maxRecDepth 100000 in
set_option maxHeartbeats 1600000 in
theorem good0 (kind : Int) (hk : ¬ (1 ≤ kind ∧ kind ≤ 9)) (user : ByteArray) (id st pr ttl : Int) (A : Option Addr) (c : Nat) (us : List ByteArray) {w : World} :
    Calls Tryz.prog 55 #[.agg #[.int .i64 kind, .string user, .int .i64 id, .int .i64 st, .int .i64 pr, .int .u64 ttl, .slice A us.length c]] w fun e w' => e = .returned (.bool false) ∧ Below w.heap.size w w' := by
  have k1 : (kind == 1) = false := by simp; omega
  have k2 : (kind == 2) = false := by simp; omega
  have k3 : (kind == 3) = false := by simp; omega
  have k4 : (kind == 4) = false := by simp; omega
  have k5 : (kind == 5) = false := by simp; omega
  have k6 : (kind == 6) = false := by simp; omega
  have k7 : (kind == 7) = false := by simp; omega
  have k8 : (kind == 8) = false := by simp; omega
  have k9 : (kind == 9) = false := by simp; omega
  go_enter Tryz.func55, Tryz.ntmps55
  go_wp2_with fail
  go_ret
  exact ⟨rfl, (Below.refl _ w).alloc (Nat.le_refl _) _⟩
theorem good (q : OpW) {w : World} (h : q.In w) {r : Bool} (hr : goodB q = r) : Calls Tryz.prog 55 #[q.v.val] w fun e w' => e = .returned (.bool r) ∧ Below w.heap.size w w' := by
  obtain ⟨kind, user, id, st, pr, ttl, A, c, us⟩ := q
  obtain ⟨hs, hl, hz, hu, _⟩ := h
  simp only at hs hl hz hu
  unfold goodB at hr
  simp only at hr
  show Calls _ _ #[.agg #[.int .i64 kind, .string user, .int .i64 id, .int .i64 st, .int .i64 pr, .int .u64 ttl, .slice A us.length c]] _ _
  by_cases hk : 1 ≤ kind ∧ kind ≤ 9
  · have h9 : kind = 1 ∨ kind = 2 ∨ kind = 3 ∨ kind = 4 ∨ kind = 5 ∨ kind = 6 ∨ kind = 7 ∨ kind = 8 ∨ kind = 9 := by omega
    rcases h9 with rfl | rfl | rfl | rfl | rfl | rfl | rfl | rfl | rfl
    · exact good1 user id st pr ttl A c us hu (by simpa using hr)
    · exact good2 user id st pr ttl A c us hu (by simpa using hr)
    · exact good3 user id st pr ttl A c us hu (by simpa using hr)
    · exact good4 user id st pr ttl A c us hu (by simpa using hr)
    · exact good5 user id st pr ttl A c us hu hs hl hz (by simpa using hr)
    · exact good6 user id st pr ttl A c us hu (by simpa using hr)
    · exact good7 user id st pr ttl A c us hu (by simpa using hr)
    · exact good8 user id st pr ttl A c us hu (by simpa using hr)
    · exact good9 user id st pr ttl A c us hu (by simpa using hr)
  · rw [if_neg (by omega), if_neg (by omega), if_neg (by omega), if_neg (by omega), decide_eq_false (by omega)] at hr
    subst hr
    exact good0 kind hk user id st pr ttl A c us
set_option maxHeartbeats 400000 in
theorem bad (q : OpW) {w : World} (h : q.In w) {r : Bool} (hr : (!goodB q) = r) : Calls Tryz.prog 29 #[q.v.val] w fun e w' => e = .returned (.bool r) ∧ Below w.heap.size w w' := by
  subst hr
  have hb := (Below.refl w.heap.size w).alloc (Nat.le_refl _) (.cells #[.int .i64 q.kind, .string q.user, .int .i64 q.id, .int .i64 q.st, .int .i64 q.pr, .int .u64 q.ttl, .slice q.A q.us.length q.c] 37)
  have HG := Lib.hid (good q (h.below hb) rfl)
  have HB := Lib.hid hb
  clear h hb
  unfold OpV.val OpW.v at *
  simp only at *
  go_enter Tryz.func29, Tryz.ntmps29
  go_wp2_with fail
  refine HG.out.mono ?_
  rintro e w' ⟨rfl, hb⟩
  have HB2 := Lib.hid (HB.out.trans (hb.mono HB.out.size))
  clear hb
  go_wp2_with fail
  go_ret
  exact ⟨rfl, HB2.out⟩
end Mod
end Go.Proofs.YtdkjcheannehhaaGreat
