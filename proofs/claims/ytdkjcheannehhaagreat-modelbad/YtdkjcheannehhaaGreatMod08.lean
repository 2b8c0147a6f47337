/-
  What Users (layer 10) comes to.
-/
import Derived.Test.YtdkjcheannehhaaGreatMod07
namespace Go.Proofs.YtdkjcheannehhaaGreat
open Go.RowKit Go.Shelf
attribute [local go_sem] Oper.semAt_some
namespace Mod
open Go.Law Feed Bk
theorem elemT : ∃ i, Law.Elem Tryz.prog 35 9 i (.string ⟨#[]⟩) 1 16 := Law.Elem.of Tryz.underlying35 (by kernel_rfl) rfl (by decide)
@[go_sem] theorem run_nilT (n c : Nat) (w : World) : Sem.run Tryz.prog (binOp .eql 35 (.slice none n c) (.slice none 0 0)) w = .ok (.bool true) w := by kernel_rfl
@[go_sem] theorem run_not_nilT (a : Addr) (n c : Nat) (w : World) : Sem.run Tryz.prog (binOp .eql 35 (.slice (some a) n c) (.slice none 0 0)) w = .ok (.bool false) w := by kernel_rfl
theorem own_emptyT (w : World) {base : Nat} (e : TypeId) (hb : base ≤ w.heap.size) : (w.alloc (.cells #[] e)).ownsRow base e 1 (.slice (some ⟨w.heap.size, 0, none⟩) 0 0) 0 [] :=
  ⟨rfl, .inr ⟨w.heap.size, 0, #[], rfl, hb, heap_alloc_new w _, Nat.le_refl _, Nat.zero_le _, rfl, rfl⟩⟩
/-- names in new memory -/
def Names (w : World) (us : List ByteArray) (e : Ending) (w' : World) : Prop := ∃ A c, e = .returned (.slice A us.length c) ∧ Seq w' w.heap.size w'.heap.size A (us.map .string) ∧ Below w.heap.size w w'
set_option maxHeartbeats 1000000 in
theorem cloneT (us : List ByteArray) (A : Option Addr) (c : Nat) (w : World) (hs : Seq w 0 w.heap.size A (us.map .string)) (hl : us.length ≤ 1000) :
    Calls Tryz.prog 54 #[.slice A us.length c] w (Names w us) := by
  obtain ⟨i0, hE⟩ := elemT
  have HE := Lib.hid hE
  have HS := Lib.hid hs
  clear hs hE
  cases A with
  | none =>
    have hz : us = [] := by
      cases us with
      | nil => rfl
      | cons x r => obtain ⟨_, _, h, _⟩ := HS.out (by simp); cases h
    subst hz
    go_enter Tryz.func54, Tryz.ntmps54
    go_wp2_with fail
    go_ret
    exact ⟨none, 0, rfl, fun h => absurd rfl h, Below.refl _ _⟩
  | some a =>
    have HO := Lib.hid (own_emptyT w 9 (base := w.heap.size) (Nat.le_refl _))
    have HS1 := Lib.hid (HS.out.alloc (Nat.le_refl _) (.cells #[] 9))
    go_enter Tryz.func54, Tryz.ntmps54
    go_wp2_with (at_builtin; refine Law.wpList_append_seq _ w.heap.size 35 rfl _ _ rfl HE.out _ 0 [] rfl HO.out 0 w.heap.size (some a) us.length c (us.map .string) rfl (by simp) HS1.out (str_one _) (by unfold maxLen; omega) (by omega) (by simp) ?_)
    intro v1 w1 hown hgrow
    have B1 : Below w.heap.size w w1 := ((Below.refl _ w).alloc (Nat.le_refl _) (.cells #[] 9)).grown hgrow (by simp) (fun k hk => by have h9 : w.heap.size = k := Option.some.inj hk; omega)
    have OW : w1.ownsRow w.heap.size 9 1 v1 us.length (us.map .string) := by simpa using hown
    obtain ⟨A1, c1, rfl, hc1⟩ := own_shape OW
    have HB := Lib.hid B1
    have HW := Lib.hid OW
    clear hown hgrow B1 OW HO HS1
    go_wp2_with fail
    go_ret
    exact ⟨A1, c1, rfl, Seq.own HW.out, HB.out⟩
set_option maxHeartbeats 1000000 in
theorem users4 (user : ByteArray) (id st pr ttl : Int) (us : Value) (w : World) :
    Calls Tryz.prog 28 #[.agg #[.int .i64 4, .string user, .int .i64 id, .int .i64 st, .int .i64 pr, .int .u64 ttl, us]] w (Names w [user]) := by
  have bb := ((Below.refl w.heap.size w).alloc (Nat.le_refl _) (.cells #[.int .i64 4, .string user, .int .i64 id, .int .i64 st, .int .i64 pr, .int .u64 ttl, us] 37)).alloc (by simp) (.cells #[.string user] 9)
  have hs : Seq ((w.alloc (.cells #[.int .i64 4, .string user, .int .i64 id, .int .i64 st, .int .i64 pr, .int .u64 ttl, us] 37)).alloc (.cells #[.string user] 9)) w.heap.size ((w.alloc (.cells #[.int .i64 4, .string user, .int .i64 id, .int .i64 st, .int .i64 pr, .int .u64 ttl, us] 37)).alloc (.cells #[.string user] 9)).heap.size (some ⟨w.heap.size + 1, 0, none⟩) ([user].map .string) := fun _ =>
    ⟨w.heap.size + 1, 0, rfl, by omega, by simp, fun i u hu => by
      have hi : i = 0 := by have := (List.getElem?_eq_some_iff.1 hu).1; simp at this; omega
      subst hi
      obtain rfl : Value.string user = u := by simpa using hu
      simp⟩
  have HB := Lib.hid bb
  have HS := Lib.hid hs
  clear bb hs
  go_enter Tryz.func28, Tryz.ntmps28
  go_wp2_with fail
  go_ret
  exact ⟨_, 1, rfl, HS.out, HB.out⟩
set_option maxHeartbeats 1000000 in
theorem users5 (user : ByteArray) (id st pr ttl : Int) (us : List ByteArray) (A : Option Addr) (c : Nat) (w : World) (hs : Seq w 0 w.heap.size A (us.map .string)) (hl : us.length ≤ 1000) :
    Calls Tryz.prog 28 #[.agg #[.int .i64 5, .string user, .int .i64 id, .int .i64 st, .int .i64 pr, .int .u64 ttl, .slice A us.length c]] w (Names w us) := by
  have bb := (Below.refl w.heap.size w).alloc (Nat.le_refl _) (.cells #[.int .i64 5, .string user, .int .i64 id, .int .i64 st, .int .i64 pr, .int .u64 ttl, .slice A us.length c] 37)
  have HB := Lib.hid bb
  have HC := Lib.hid (cloneT us A c _ ((hs.below bb).more bb.size) hl)
  clear bb hs
  go_enter Tryz.func28, Tryz.ntmps28
  go_wp2_with fail
  refine HC.out.mono ?_
  rintro e w2 ⟨A2, c2, rfl, hs2, b2⟩
  have HS2 := Lib.hid (hs2.from_ HB.out.size)
  have HB2 := Lib.hid (HB.out.trans (b2.mono HB.out.size))
  clear hs2 b2
  go_wp2_with fail
  go_ret
  exact ⟨A2, c2, rfl, HS2.out, HB2.out⟩
end Mod
end Go.Proofs.YtdkjcheannehhaaGreat
