/-
  What the statements' awake (layer 7) comes to.
-/
import Derived.Test.YtmcbjfmlncellaaAggr03
namespace Go.Proofs.Ytmcbjfmlncellaa
open Go.RowKit
namespace Aggr
open Go.Law
@[go_sem] theorem run_field0 (a b c : Value) (w : World) : Sem.run Try.prog (Instr.field 33 (.agg #[a, b, c]) 0) w = .ok a w := by kernel_rfl
@[go_sem] theorem run_field1 (a b c : Value) (w : World) : Sem.run Try.prog (Instr.field 33 (.agg #[a, b, c]) 1) w = .ok b w := by kernel_rfl
@[go_sem] theorem run_field2 (a b c : Value) (w : World) : Sem.run Try.prog (Instr.field 33 (.agg #[a, b, c]) 2) w = .ok c w := by kernel_rfl
theorem ofE (now : Int) (zs : List Sn) (A : Option Addr) (c m : Nat) (w : World) (v : Value) (hm : zs.length = m) (hv : PV (live now zs) = v) (hs : Seq w 0 w.heap.size A (flatS zs)) (hl : zs.length ≤ maxLen) :
    Calls Try.prog 13 #[.slice A m c, .int .u64 now] w fun e w' => e = .returned v ∧ Below w.heap.size w w' := by
  subst hm hv
  exact of_ now zs A c w hs hl

set_option maxRecDepth 100000 in
set_option maxHeartbeats 800000 in
theorem awake (w : World) : Calls Try.prog 9 #[] w fun e w' => e = .returned (.bool true) ∧ Below w.heap.size w w' := by
  have I0 : Is (w.alloc (.cells #[.int .i64 1, .int .i64 5, .int .i64 2, .int .u64 9, .int .i64 0, .int .i64 6, .int .i64 2, .int .u64 9] 30)) w.heap.size 30 (flatS [(1, 5, 2, 9), (0, 6, 2, 9)]).toArray := Is.new _ _ _ rfl
  have B0 := Lib.hid ((Below.refl w.heap.size w).alloc (Nat.le_refl _) (.cells #[.int .i64 1, .int .i64 5, .int .i64 2, .int .u64 9, .int .i64 0, .int .i64 6, .int .i64 2, .int .u64 9] 30))
  have S0 := Lib.hid (((I0.seqS).from_ (Nat.zero_le _)).more I0.lt)
  have e8 : Hid (PV (live 8 [(1, 5, 2, 9), (0, 6, 2, 9)]) = .agg #[.int .i64 6, .int .i64 2, .int .i64 2]) := by show _ = _; rfl
  have e9 : Hid (PV (live 9 [(1, 5, 2, 9), (0, 6, 2, 9)]) = .agg #[.int .i64 0, .int .i64 0, .int .i64 0]) := by show _ = _; rfl
  clear I0
  go_enter Try.func9, Try.ntmps9
  go_wp2_with fail
  generalize w.alloc (.cells #[.int .i64 1, .int .i64 5, .int .i64 2, .int .u64 9, .int .i64 0, .int .i64 6, .int .i64 2, .int .u64 9] 30) = w0 at *
  refine (ofE 8 [(1, 5, 2, 9), (0, 6, 2, 9)] (some ⟨w.heap.size, 0, none⟩) 2 2 w0 _ rfl e8.out S0.out (by simp [maxLen])).mono ?_
  rintro e w1 ⟨rfl, b1⟩
  have B1 := Lib.hid (B0.out.trans (b1.mono B0.out.size))
  have S1 := Lib.hid ((S0.out.below b1).more b1.size)
  clear b1
  go_wp2_with fail
  refine (ofE 9 [(1, 5, 2, 9), (0, 6, 2, 9)] (some ⟨w.heap.size, 0, none⟩) 2 2 w1 _ rfl e9.out S1.out (by simp [maxLen])).mono ?_
  rintro e w2 ⟨rfl, b2⟩
  have B2 := Lib.hid (B1.out.trans (b2.mono B1.out.size))
  clear b2
  go_wp2_with fail
  go_ret
  exact ⟨rfl, B2.out⟩
end Aggr
end Go.Proofs.Ytmcbjfmlncellaa
