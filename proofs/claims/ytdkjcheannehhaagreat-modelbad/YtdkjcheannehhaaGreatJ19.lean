/-
  What layer 8's statements' helpers come to: later, long, made; the document's example.
-/
import Derived.Test.YtdkjcheannehhaaGreatJ18
import Derived.Test.YtdkjcheannehhaaGreatJ16
import Derived.StillTailTactics
import Derived.Test.YtdkjcheannehhaaGreatJ6
import Derived.WalkKit
import Derived.WalkSpells
import Derived.WalkLawsBesides
import Derived.Lib.Hide
namespace Go.Proofs.YtdkjcheannehhaaGreat
open Go.RowKit
namespace Bk
open Go.Law Go.Proofs.YtdkjcheannehhaaGreat.OmapB Door
/-- a book behind so many acts: as it may be, and small -/
structure Fit (n : Nat) (b : List (ByteArray × En)) : Prop where
  book : Book lt b
  len : b.length ≤ n
  ses : ∀ q ∈ b, q.2.1.length ≤ n
theorem Fit.nil (n : Nat) : Fit n [] := ⟨Book.nil lt, Nat.zero_le _, fun _ h => by cases h⟩
theorem Fit.more {n m : Nat} {b : List (ByteArray × En)} (h : Fit n b) (hm : n ≤ m) : Fit m b := ⟨h.book, Nat.le_trans h.len hm, fun q hq => Nat.le_trans (h.ses q hq) hm⟩
theorem Fit.of {n : Nat} {b : List (ByteArray × En)} (h : Fit n b) (u : ByteArray) : (sesK u b).length ≤ n := Room.ses (n := n) (fun q hq => h.ses q hq) u
theorem wrS_up {q : OpV} {now most : Int} {b : List (ByteArray × En)} (h : Book lt b) : Up (wrS q now most b) := wrote_up (live_up now (h.ses lt q.user))
theorem wrS_le {n : Nat} {q : OpV} {now most : Int} {b : List (ByteArray × En)} (h : Fit n b) : (wrS q now most b).length ≤ n + 1 := by
  have h1 := wrote_le q.kind q.id q.st q.pr (sat now q.ttl) most (live now (sesK q.user b))
  have h2 := live_length now (sesK q.user b)
  have h3 := h.of q.user
  unfold wrS
  omega
theorem Fit.write {n : Nat} {q : OpV} {now most : Int} {b : List (ByteArray × En)} (h : Fit n b) : Fit (n + 1) (wrB q now most b) :=
  ⟨h.book.become lt tri (wrS_up h.book), Nat.le_trans (become_len lt _ _ _ _) (by have := h.len; omega), Room.become lt (n := n + 1) (fun p hp => Nat.le_succ_of_le (h.ses p hp)) (wrS_le h)⟩
theorem Fit.sweep {n : Nat} {now : Int} {b : List (ByteArray × En)} (h : Fit n b) : Fit n (sweepB now b) :=
  ⟨h.book.sweep lt, Nat.le_trans (List.length_filterMap_le _ _) h.len, Room.sweep (n := n) (fun p hp => h.ses p hp)⟩
/-- a book and the time behind an act -/
def actB (most : Int) (st : List (ByteArray × En) × Int) (q : ActV) : List (ByteArray × En) × Int :=
  if q.sweep then (sweepB (sat st.2 q.by_) st.1, sat st.2 q.by_) else (wrB q.op (sat st.2 q.by_) most st.1, sat st.2 q.by_)
def madeB (most : Int) (l : List ActV) : List (ByteArray × En) × Int := l.foldl (actB most) ([], 0)
theorem madeB_snoc (most : Int) (l : List ActV) (q : ActV) : madeB most (l ++ [q]) = actB most (madeB most l) q := by simp [madeB]
theorem act_fit {n : Nat} {most : Int} {st : List (ByteArray × En) × Int} {q : ActV} (h : Fit n st.1) : Fit (n + 1) (actB most st q).1 := by
  unfold actB
  split
  · exact h.sweep.more (by omega)
  · exact h.write
theorem act_U {most : Int} {st : List (ByteArray × En) × Int} {q : ActV} (h : U st.2) (hq : q.Good) : U (actB most st q).2 := by
  unfold actB
  have := sat_U h (ofwf hq.by_)
  split <;> exact this
theorem made_fit (most : Int) (l : List ActV) (hq : ∀ q ∈ l, q.Good) : Fit l.length (madeB most l).1 ∧ U (madeB most l).2 := by
  induction l using snocInd with
  | nil => exact ⟨Fit.nil _, U0⟩
  | snoc l q ih =>
    have ih := ih fun p hp => hq p (by simp [hp])
    rw [madeB_snoc]
    exact ⟨(act_fit ih.1).more (by simp), act_U ih.2 (hq q (by simp))⟩
abbrev flatA (l : List ActV) : List Value := l.flatMap cellsA
theorem _root_.Go.Law.Seq.act {w : World} {lo B : Nat} {A : Option Addr} {l : List ActV} {i : Nat} (h : Seq w lo B A (flatA l)) (hi : i < l.length) : ∃ b off, A = some ⟨b, off, none⟩ ∧ b < B ∧ ∀ j u, (cellsA l[i])[j]? = some u → w.cell? ⟨b, off + i * 9 + j, none⟩ = some u := by
  obtain ⟨b, off, hA, _, h2, hc⟩ := Seq.row (cells := cellsA) (fun _ => rfl) (by decide : 0 < 9) h hi
  exact ⟨b, off, hA, h2, hc⟩

/-- is there more than is looked at? -/
def longB (l : List ActV) : Bool := decide (120 < l.length) || l.any fun q => decide (100 < q.op.user.size)

end Bk
end Go.Proofs.YtdkjcheannehhaaGreat
/-
  What the calls of layer 2 (hash) that take one text come to, the reference's, and the statements' example. No condition but that a text is no longer than any may be.
-/
namespace Go.Proofs.YtdkjcheannehhaaGreat
open Go.RowKit
namespace Hash
open Door

/-- one byte more -/
def step (h : Int) (c : UInt8) : Int := IntKind.u64.wrap (bits .xor .u64 h (IntKind.u64.wrap c.toNat) * 1099511628211)
/-- the hash -/
def of (l : List UInt8) : Int := l.foldl step 14695981039346656037
/-- in which stripe of n -/
def stripe (l : List UInt8) (n : Int) : Nat := if n < 1 then 0 else (of l % n).toNat

theorem step_U (h : Int) (c : UInt8) : 0 ≤ step h c ∧ step h c ≤ 18446744073709551615 := by
  unfold step
  rw [IntKind.wrap_u64]
  omega
theorem of_snoc (l : List UInt8) (c : UInt8) : of (l ++ [c]) = step (of l) c := by simp [of]
theorem of_nil : of [] = 14695981039346656037 := rfl
theorem fold_U (l : List UInt8) : ∀ h : Int, (0 ≤ h ∧ h ≤ 18446744073709551615) → 0 ≤ l.foldl step h ∧ l.foldl step h ≤ 18446744073709551615 := by
  induction l with
  | nil => intro h hh; exact hh
  | cons c l ih => intro h _; exact ih _ (step_U h c)
theorem of_U (l : List UInt8) : 0 ≤ of l ∧ of l ≤ 18446744073709551615 := fold_U l _ (by omega)
theorem of_append (l m : List UInt8) : of (l ++ m) = m.foldl step (of l) := by simp [of]
theorem take_snoc (s : ByteArray) (k : Nat) (h : k < s.size) : s.data.toList.take (k + 1) = s.data.toList.take k ++ [s[k]] := by
  rw [List.take_succ_eq_append_getElem (by simpa using h)]; rfl
theorem of_next (s : ByteArray) (k : Nat) (h : k < s.size) : of (s.data.toList.take (k + 1)) = step (of (s.data.toList.take k)) s[k] := by rw [take_snoc s k h, of_snoc]
theorem of_all (s : ByteArray) (k : Nat) (h : ¬ k < s.size) : of (s.data.toList.take k) = of s.data.toList := by rw [List.take_of_length_le (by simp; omega)]
theorem halves (x : Int) : IntKind.u64.wrap (IntKind.u64.wrap (x * 1099511627776) + IntKind.u64.wrap (x * 435)) = IntKind.u64.wrap (x * 1099511628211) := by
  simp only [IntKind.wrap_u64]
  omega
theorem stripe_lt (l : List UInt8) {n : Int} (h : 1 ≤ n) : (stripe l n : Int) < n := by
  unfold stripe
  rw [if_neg (by omega)]
  have := Int.emod_nonneg (of l) (show n ≠ 0 by omega)
  have := Int.emod_lt_of_pos (of l) (show 0 < n by omega)
  omega
theorem stripe_eq (l : List UInt8) {n : Int} (h : 1 ≤ n) : (stripe l n : Int) = of l % n := by
  unfold stripe
  rw [if_neg (by omega)]
  have := Int.emod_nonneg (of l) (show n ≠ 0 by omega)
  omega
theorem stripe_none (l : List UInt8) {n : Int} (h : n < 1) : stripe l n = 0 := by
  unfold stripe
  rw [if_pos h]
theorem ret_int {k : IntKind} {a b : Int} (h : a = b) : Ending.returned (.int k a) = .returned (.int k b) := by rw [h]

set_option maxHeartbeats 400000 in
theorem hof (s : ByteArray) (w : World) (hs : s.size ≤ maxLen) :
    Calls Tryz.prog 101 #[.string s] w fun e w' => e = .returned (.int .u64 (of s.data.toList)) ∧ w = w' := by
  unfold maxLen at hs
  go_enter Tryz.func101, Tryz.ntmps101
  go_wp2
  go_loop [3, 7] (fun h i => ∃ k : Nat, k ≤ s.size ∧ i = .int .i64 k ∧ h = .int .u64 (of (s.data.toList.take k))) (fun _ i => s.size - (intOf i).toNat)
  case atStart => exact ⟨0, Nat.zero_le _, rfl, rfl⟩
  case round =>
    obtain ⟨k, hk, rfl, rfl⟩ := hrel
    have hu := of_U (s.data.toList.take k)
    by_cases hlt : k < s.size
    · have H : Hid (of (s.data.toList.take (k + 1)) = IntKind.u64.wrap (bits .xor .u64 (of (s.data.toList.take k)) (IntKind.u64.wrap s[k].toNat) * 1099511628211)) := of_next s k hlt
      go_wp2
      go_round
      case rel => exact ⟨k + 1, by omega, by go_num, by rw [H.out]⟩
      case measure => simp [intOf]; omega
    · have H : Hid (of (s.data.toList.take k) = of s.data.toList) := of_all s k hlt
      go_wp2
      go_ret
      exact ⟨ret_int H.out, rfl⟩

set_option maxHeartbeats 400000 in
theorem refOf (s : ByteArray) (w : World) (hs : s.size ≤ maxLen) :
    Calls Tryz.prog 70 #[.string s] w fun e w' => e = .returned (.int .u64 (of s.data.toList)) ∧ w = w' := by
  unfold maxLen at hs
  go_enter Tryz.func70, Tryz.ntmps70
  go_wp2
  go_loop [3, 4] (fun h i => ∃ k : Nat, k ≤ s.size ∧ i = .int .i64 k ∧ h = .int .u64 (of (s.data.toList.take k))) (fun _ i => s.size - (intOf i).toNat)
  case atStart => exact ⟨0, Nat.zero_le _, rfl, rfl⟩
  case round =>
    obtain ⟨k, hk, rfl, rfl⟩ := hrel
    have hu := of_U (s.data.toList.take k)
    by_cases hlt : k < s.size
    · have H : Hid (of (s.data.toList.take (k + 1)) = IntKind.u64.wrap (IntKind.u64.wrap (bits .xor .u64 (of (s.data.toList.take k)) (IntKind.u64.wrap s[k].toNat) * 1099511627776) + IntKind.u64.wrap (bits .xor .u64 (of (s.data.toList.take k)) (IntKind.u64.wrap s[k].toNat) * 435))) := (of_next s k hlt).trans (halves _).symm
      go_wp2
      go_round
      case rel => exact ⟨k + 1, by omega, by go_num, by rw [H.out]⟩
      case measure => simp [intOf]; omega
    · have H : Hid (of (s.data.toList.take k) = of s.data.toList) := of_all s k hlt
      go_wp2
      go_ret
      exact ⟨ret_int H.out, rfl⟩

set_option maxHeartbeats 400000 in
theorem hstripe (s : ByteArray) (n : Int) (w : World) (hs : s.size ≤ maxLen) (hn : n ≤ 9223372036854775807) :
    Calls Tryz.prog 78 #[.string s, .int .i64 n] w fun e w' => e = .returned (.int .i64 (stripe s.data.toList n : Nat)) ∧ w = w' := by
  by_cases h : n < 1
  · have H := Lib.hid (stripe_none s.data.toList h)
    go_enter Tryz.func78, Tryz.ntmps78
    go_wp2_with fail
    go_ret
    exact ⟨ret_int (by rw [H.out]; rfl), rfl⟩
  · have hu := of_U s.data.toList
    have h0 : 1 ≤ n := by omega
    have h1 : IntKind.u64.wrap n = n := by rw [IntKind.wrap_u64]; omega
    have h2 : (n == 0) = false := by simp; omega
    have H := Lib.hid (stripe_eq s.data.toList h0)
    have h3 : wrap64 (of s.data.toList % n) = of s.data.toList % n := by
      have := Int.emod_nonneg (of s.data.toList) (show n ≠ 0 by omega)
      have := Int.emod_lt_of_pos (of s.data.toList) (show 0 < n by omega)
      unfold wrap64; omega
    go_enter Tryz.func78, Tryz.ntmps78
    go_wp2_with fail
    refine (hof _ _ hs).mono ?_
    rintro e w' ⟨rfl, rfl⟩
    go_wp2_with fail
    go_ret
    exact ⟨ret_int (by rw [H.out]; exact h3), rfl⟩

set_option maxHeartbeats 400000 in
theorem refStripe (s : ByteArray) (n : Int) (w : World) (hs : s.size ≤ maxLen) (hn : n ≤ 9223372036854775807) :
    Calls Tryz.prog 43 #[.string s, .int .i64 n] w fun e w' => e = .returned (.int .i64 (stripe s.data.toList n : Nat)) ∧ w = w' := by
  by_cases h : n < 1
  · have H := Lib.hid (stripe_none s.data.toList h)
    go_enter Tryz.func43, Tryz.ntmps43
    go_wp2_with fail
    go_ret
    exact ⟨ret_int (by rw [H.out]; rfl), rfl⟩
  · have hu := of_U s.data.toList
    have h0 : 1 ≤ n := by omega
    have h1 : IntKind.u64.wrap n = n := by rw [IntKind.wrap_u64]; omega
    have h2 : (n == 0) = false := by simp; omega
    have H := Lib.hid (stripe_eq s.data.toList h0)
    have h3 : wrap64 (of s.data.toList % n) = of s.data.toList % n := by
      have := Int.emod_nonneg (of s.data.toList) (show n ≠ 0 by omega)
      have := Int.emod_lt_of_pos (of s.data.toList) (show 0 < n by omega)
      unfold wrap64; omega
    go_enter Tryz.func43, Tryz.ntmps43
    go_wp2_with fail
    refine (refOf _ _ hs).mono ?_
    rintro e w' ⟨rfl, rfl⟩
    go_wp2_with fail
    go_ret
    exact ⟨ret_int (by rw [H.out]; exact h3), rfl⟩

/-- may a name have so many bytes? -/
def okLen (n : Nat) : Bool := decide (1 ≤ n ∧ n ≤ 16)
theorem ret_bool {a b : Bool} (h : a = b) : Ending.returned (.bool a) = .returned (.bool b) := by rw [h]
set_option maxHeartbeats 400000 in
theorem right (s : ByteArray) (w : World) (hs : s.size ≤ maxLen) :
    Calls Tryz.prog 81 #[.string s] w fun e w' => e = .returned (.bool (okLen s.size)) ∧ w = w' := by
  unfold maxLen at hs
  by_cases h : 1 ≤ s.size
  · by_cases h2 : s.size ≤ 16
    · have H : Hid (okLen s.size = true) := by show _ = _; simp [okLen]; omega
      have d1 : decide (s.size ≤ 16) = true := by simp; omega
      have d2 : decide ((s.size : Int) ≤ 16) = true := by simp; omega
      go_enter Tryz.func81, Tryz.ntmps81
      go_wp2_with fail
      go_ret
      exact ⟨ret_bool (by rw [H.out]), rfl⟩
    · have H : Hid (okLen s.size = false) := by show _ = _; simp [okLen]; omega
      have d1 : decide (s.size ≤ 16) = false := by simp; omega
      have d2 : decide ((s.size : Int) ≤ 16) = false := by simp; omega
      go_enter Tryz.func81, Tryz.ntmps81
      go_wp2_with fail
      go_ret
      exact ⟨ret_bool (by rw [H.out]), rfl⟩
  · have H : Hid (okLen s.size = false) := by show _ = _; simp [okLen]; omega
    go_enter Tryz.func81, Tryz.ntmps81
    go_wp2_with fail
    go_ret
    exact ⟨ret_bool (by rw [H.out]), rfl⟩

theorem of_empty : of (ByteArray.mk #[]).data.toList = 14695981039346656037 := rfl
theorem of_a : of (ByteArray.mk #[97]).data.toList = 12638187200555641996 := by decide +kernel
end Hash
end Go.Proofs.YtdkjcheannehhaaGreat
