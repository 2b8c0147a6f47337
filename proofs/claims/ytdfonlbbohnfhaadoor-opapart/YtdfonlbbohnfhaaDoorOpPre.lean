/-
  A presence's and an event's words (layer 11).
-/
import Derived.Test.YtdfonlbbohnfhaaDoorOpLine
namespace Go.Proofs.YtdfonlbbohnfhaaDoor
open Go.RowKit Go.Shelf Go.Lib
attribute [local go_sem] Oper.semAt_some
namespace Opx
open Go.Law
def slashB : ByteArray := ⟨#[47]⟩
/-- a presence's words -/
def presB (a b c : Int) : ByteArray := (((intB a ++ ⟨#[47]⟩) ++ intB b) ++ ⟨#[47]⟩) ++ intB c
/-- an event's word -/
def eventB (u : ByteArray) (a b c a' b' c' : Int) (s : Nat) : ByteArray := ((((((quoteB u ++ ⟨#[58]⟩) ++ presB a b c) ++ ⟨#[62]⟩) ++ presB a' b' c') ++ ⟨#[64]⟩) ++ decB s)
set_option maxRecDepth 100000 in
set_option maxHeartbeats 2000000 in
theorem presence (a b c : Int) (ha : I64 a) (hb : I64 b) (hc : I64 c) (w : World) (hT : Tabs w) :
    Calls Tryd.prog 19 #[.agg #[.int .i64 a, .int .i64 b, .int .i64 c]] w fun e w' => e = .returned (.string (presB a b c)) ∧ Below w.heap.size w w' := by
  have bb := (Below.refl w.heap.size w).alloc (Nat.le_refl _) (.cells #[.int .i64 a, .int .i64 b, .int .i64 c] 36)
  have HX := Lib.hid (Is.new w 36 #[.int .i64 a, .int .i64 b, .int .i64 c] rfl)
  have HB := Lib.hid bb
  have HTb := Lib.hid (hT.below bb)
  clear hT bb
  go_enter Tryd.func19, Tryd.ntmps19
  go_wp2_with fail
  generalize w.alloc (.cells #[.int .i64 a, .int .i64 b, .int .i64 c] 36) = w1 at *
  have ia := intB_size a ha
  have ib := intB_size b hb
  have ic := intB_size c hc
  have x0 : w1.cell? ⟨w.heap.size, 0, none⟩ = some (.int .i64 a) := HX.out.cell' rfl
  have x1 : w1.cell? ⟨w.heap.size, 1, none⟩ = some (.int .i64 b) := HX.out.cell' rfl
  have x2 : w1.cell? ⟨w.heap.size, 2, none⟩ = some (.int .i64 c) := HX.out.cell' rfl
  refine wp_region_held_drew (S := fun w' => w'.cell? ⟨w.heap.size, 0, none⟩ = some (.int .i64 a) ∧ w'.cell? ⟨w.heap.size, 1, none⟩ = some (.int .i64 b) ∧ w'.cell? ⟨w.heap.size, 2, none⟩ = some (.int .i64 c)) (by kernel_rfl) ⟨x0, x1, x2⟩ (fun hS0 => ?_)
  refine Go.Law.tk 0 ⟨some 3, .fieldAddr 36 (.tmp 1) 0, _, _, _, _⟩ (v := .pointer (some ⟨w.heap.size, 0, none⟩)) hS0 ?_ ?_
  · intro w' hSw
    go_simp
  try simp only [Go.Law.pz]
  refine Go.Law.tk 1 ⟨some 4, .load 3 (.tmp 3), _, _, _, _⟩ (v := .int .i64 a) hS0 ?_ ?_
  · intro w' hSw
    obtain ⟨s1', s2', s3'⟩ := hSw
    go_simp
  try simp only [Go.Law.pz]
  refine Go.Law.tk 4 ⟨some 7, .fieldAddr 36 (.tmp 1) 1, _, _, _, _⟩ (v := .pointer (some ⟨w.heap.size, 1, none⟩)) hS0 ?_ ?_
  · intro w' hSw
    go_simp
  try simp only [Go.Law.pz]
  refine Go.Law.tk 5 ⟨some 8, .load 3 (.tmp 7), _, _, _, _⟩ (v := .int .i64 b) hS0 ?_ ?_
  · intro w' hSw
    obtain ⟨s1', s2', s3'⟩ := hSw
    go_simp
  try simp only [Go.Law.pz]
  refine Go.Law.tk 9 ⟨some 12, .fieldAddr 36 (.tmp 1) 2, _, _, _, _⟩ (v := .pointer (some ⟨w.heap.size, 2, none⟩)) hS0 ?_ ?_
  · intro w' hSw
    go_simp
  try simp only [Go.Law.pz]
  refine Go.Law.tk 10 ⟨some 13, .load 3 (.tmp 12), _, _, _, _⟩ (v := .int .i64 c) hS0 ?_ ?_
  · intro w' hSw
    obtain ⟨s1', s2', s3'⟩ := hSw
    go_simp
  try simp only [Go.Law.pz]
  have HXa : Hid (Is w1.drew w.heap.size 36 #[.int .i64 a, .int .i64 b, .int .i64 c]) := HX.out.drewN 1
  have HBa := Lib.hid (Law.below_drewN HB.out 1)
  have HTa := Lib.hid (HTb.out.below (Law.below_drewN (Below.refl _ w1) 1))
  refine wpAnyH_ready (rs := [2]) (by kernel_rfl) (by simp) ?_
  refine AllReadyH.cons (o := ⟨some 5, .call { callee := .value (.func 15), args := #[.tmp 4], argTypes := _ }, _, _, _, _⟩) rfl (fun K hK => ?_) AllReadyH.nil
  go_simp
  refine Calls.mono (digI a ha.1 ha.2 w1.drew HTa.out) ?_
  rintro e vp ⟨rfl, bx⟩
  have HXp := Lib.hid (HXa.out.below bx HXa.out.lt)
  have HBp := Lib.hid (HBa.out.trans (bx.mono HBa.out.size))
  have HTp := Lib.hid (HTa.out.below bx)
  clear bx
  go_wp2_with fail
  refine hK.out _ _ ⟨HXp.out.cell' rfl, HXp.out.cell' rfl, HXp.out.cell' rfl⟩ (fun hSp => ?_)
  clear hK K
  try simp only [Go.Law.pz]
  refine Go.Law.tk 3 ⟨some 6, .binOp .add 9 (.tmp 5) (.const (.string ⟨#[47]⟩)) 9, _, _, _, _⟩ (v := .string (intB a ++ ⟨#[47]⟩)) hSp ?_ ?_
  · intro w' hSw
    go_simp
    omega
  try simp only [Go.Law.pz]
  refine wpAnyH_ready (rs := [6]) (by kernel_rfl) (by simp) ?_
  refine AllReadyH.cons (o := ⟨some 9, .call { callee := .value (.func 15), args := #[.tmp 8], argTypes := _ }, _, _, _, _⟩) rfl (fun K hK => ?_) AllReadyH.nil
  go_simp
  refine Calls.mono (digI b hb.1 hb.2 vp HTp.out) ?_
  rintro e vq ⟨rfl, bx⟩
  have HXq := Lib.hid (HXp.out.below bx HXp.out.lt)
  have HBq := Lib.hid (HBp.out.trans (bx.mono HBp.out.size))
  have HTq := Lib.hid (HTp.out.below bx)
  clear bx
  go_wp2_with fail
  refine hK.out _ _ ⟨HXq.out.cell' rfl, HXq.out.cell' rfl, HXq.out.cell' rfl⟩ (fun hSq => ?_)
  clear hK K
  try simp only [Go.Law.pz]
  refine Go.Law.tk 7 ⟨some 10, .binOp .add 9 (.tmp 6) (.tmp 9) 9, _, _, _, _⟩ (v := .string ((intB a ++ ⟨#[47]⟩) ++ intB b)) hSq ?_ ?_
  · intro w' hSw
    go_simp
    omega
  try simp only [Go.Law.pz]
  refine Go.Law.tk 8 ⟨some 11, .binOp .add 9 (.tmp 10) (.const (.string ⟨#[47]⟩)) 9, _, _, _, _⟩ (v := .string (((intB a ++ ⟨#[47]⟩) ++ intB b) ++ ⟨#[47]⟩)) hSq ?_ ?_
  · intro w' hSw
    go_simp
    omega
  try simp only [Go.Law.pz]
  refine wpAnyH_ready (rs := [11]) (by kernel_rfl) (by simp) ?_
  refine AllReadyH.cons (o := ⟨some 14, .call { callee := .value (.func 15), args := #[.tmp 13], argTypes := _ }, _, _, _, _⟩) rfl (fun K hK => ?_) AllReadyH.nil
  go_simp
  refine Calls.mono (digI c hc.1 hc.2 vq HTq.out) ?_
  rintro e vr ⟨rfl, bx⟩
  have HXr := Lib.hid (HXq.out.below bx HXq.out.lt)
  have HBr := Lib.hid (HBq.out.trans (bx.mono HBq.out.size))
  have HTr := Lib.hid (HTq.out.below bx)
  clear bx
  go_wp2_with fail
  refine hK.out _ _ ⟨HXr.out.cell' rfl, HXr.out.cell' rfl, HXr.out.cell' rfl⟩ (fun hSr => ?_)
  clear hK K
  try simp only [Go.Law.pz]
  refine Go.Law.tk 12 ⟨some 15, .binOp .add 9 (.tmp 11) (.tmp 14) 9, _, _, _, _⟩ (v := .string ((((intB a ++ ⟨#[47]⟩) ++ intB b) ++ ⟨#[47]⟩) ++ intB c)) hSr ?_ ?_
  · intro w' hSw
    go_simp
    omega
  try simp only [Go.Law.pz]
  refine Go.Law.tk 13 ⟨some 2, .assign (.tmp 15), _, _, _, _⟩ (v := .string ((((intB a ++ ⟨#[47]⟩) ++ intB b) ++ ⟨#[47]⟩) ++ intB c)) hSr ?_ ?_
  · intro w' hSw
    go_simp
  try simp only [Go.Law.pz]
  refine wpAnyH_done (by kernel_rfl) ?_ _
  go_wp2_with fail
  go_ret
  exact ⟨rfl, HBr.out⟩
theorem presB_size (a b c : Int) (ha : I64 a) (hb : I64 b) (hc : I64 c) : (presB a b c).size ≤ 65 := by
  have ia := intB_size a ha
  have ib := intB_size b hb
  have ic := intB_size c hc
  have e1 : (⟨#[47]⟩ : ByteArray).size = 1 := rfl
  unfold presB
  simp only [ByteArray.size_append, e1]
  omega
set_option maxRecDepth 100000 in
set_option maxHeartbeats 2000000 in
theorem event (u : ByteArray) (hu : u.size ≤ 100) (a b c a' b' c' : Int) (ha : I64 a) (hb : I64 b) (hc : I64 c) (ha' : I64 a') (hb' : I64 b') (hc' : I64 c') (s : Nat) (hs : s < 18446744073709551616) (w : World) (hT : Tabs w) :
    Calls Tryd.prog 20 #[.agg #[.string u, .int .i64 a, .int .i64 b, .int .i64 c, .int .i64 a', .int .i64 b', .int .i64 c', .int .u64 (s : Int)]] w fun e w' => e = .returned (.string (eventB u a b c a' b' c' s)) ∧ Below w.heap.size w w' := by
  have bb := (Below.refl w.heap.size w).alloc (Nat.le_refl _) (.cells #[.string u, .int .i64 a, .int .i64 b, .int .i64 c, .int .i64 a', .int .i64 b', .int .i64 c', .int .u64 (s : Int)] 38)
  have HX := Lib.hid (Is.new w 38 #[.string u, .int .i64 a, .int .i64 b, .int .i64 c, .int .i64 a', .int .i64 b', .int .i64 c', .int .u64 (s : Int)] rfl)
  have HB := Lib.hid bb
  have HTb := Lib.hid (hT.below bb)
  clear hT bb
  have iu := quoteB_size u
  have ip := presB_size a b c ha hb hc
  have iq := presB_size a' b' c' ha' hb' hc'
  have id := decB_size s hs
  go_enter Tryd.func20, Tryd.ntmps20
  go_wp2_with fail
  generalize w.alloc (.cells #[.string u, .int .i64 a, .int .i64 b, .int .i64 c, .int .i64 a', .int .i64 b', .int .i64 c', .int .u64 (s : Int)] 38) = w1 at *
  have x0 : w1.cell? ⟨w.heap.size, 0, none⟩ = some (.string u) := HX.out.cell' rfl
  have x1 : w1.cell? ⟨w.heap.size, 1, none⟩ = some (.int .i64 a) := HX.out.cell' rfl
  have x2 : w1.cell? ⟨w.heap.size, 2, none⟩ = some (.int .i64 b) := HX.out.cell' rfl
  have x3 : w1.cell? ⟨w.heap.size, 3, none⟩ = some (.int .i64 c) := HX.out.cell' rfl
  have x4 : w1.cell? ⟨w.heap.size, 4, none⟩ = some (.int .i64 a') := HX.out.cell' rfl
  have x5 : w1.cell? ⟨w.heap.size, 5, none⟩ = some (.int .i64 b') := HX.out.cell' rfl
  have x6 : w1.cell? ⟨w.heap.size, 6, none⟩ = some (.int .i64 c') := HX.out.cell' rfl
  have x7 : w1.cell? ⟨w.heap.size, 7, none⟩ = some (.int .u64 (s : Int)) := HX.out.cell' rfl
  refine wp_region_held_drew (S := fun w' => w'.cell? ⟨w.heap.size, 0, none⟩ = some (.string u) ∧ w'.cell? ⟨w.heap.size, 1, none⟩ = some (.int .i64 a) ∧ w'.cell? ⟨w.heap.size, 2, none⟩ = some (.int .i64 b) ∧ w'.cell? ⟨w.heap.size, 3, none⟩ = some (.int .i64 c) ∧ w'.cell? ⟨w.heap.size, 4, none⟩ = some (.int .i64 a') ∧ w'.cell? ⟨w.heap.size, 5, none⟩ = some (.int .i64 b') ∧ w'.cell? ⟨w.heap.size, 6, none⟩ = some (.int .i64 c') ∧ w'.cell? ⟨w.heap.size, 7, none⟩ = some (.int .u64 (s : Int))) (by kernel_rfl) ⟨x0, x1, x2, x3, x4, x5, x6, x7⟩ (fun hS0 => ?_)
  refine Go.Law.tk 0 ⟨some 3, .fieldAddr 38 (.tmp 1) 0, _, _, _, _⟩ (v := .pointer (some ⟨w.heap.size, 0, none⟩)) hS0 ?_ ?_
  · intro w' hSw
    go_simp
  try simp only [Go.Law.pz]
  refine Go.Law.tk 1 ⟨some 4, .load 9 (.tmp 3), _, _, _, _⟩ (v := .string u) hS0 ?_ ?_
  · intro w' hSw
    obtain ⟨s0', s1', s2', s3', s4', s5', s6', s7'⟩ := hSw
    go_simp
  try simp only [Go.Law.pz]
  refine Go.Law.tk 4 ⟨some 7, .fieldAddr 38 (.tmp 1) 1, _, _, _, _⟩ (v := .pointer (some ⟨w.heap.size, 1, none⟩)) hS0 ?_ ?_
  · intro w' hSw
    go_simp
  try simp only [Go.Law.pz]
  refine Go.Law.tk 5 ⟨some 8, .load 36 (.tmp 7), _, _, _, _⟩ (v := .agg #[.int .i64 a, .int .i64 b, .int .i64 c]) hS0 ?_ ?_
  · intro w' hSw
    obtain ⟨s0', s1', s2', s3', s4', s5', s6', s7'⟩ := hSw
    go_simp
  try simp only [Go.Law.pz]
  refine Go.Law.tk 9 ⟨some 12, .fieldAddr 38 (.tmp 1) 2, _, _, _, _⟩ (v := .pointer (some ⟨w.heap.size, 4, none⟩)) hS0 ?_ ?_
  · intro w' hSw
    go_simp
  try simp only [Go.Law.pz]
  refine Go.Law.tk 10 ⟨some 13, .load 36 (.tmp 12), _, _, _, _⟩ (v := .agg #[.int .i64 a', .int .i64 b', .int .i64 c']) hS0 ?_ ?_
  · intro w' hSw
    obtain ⟨s0', s1', s2', s3', s4', s5', s6', s7'⟩ := hSw
    go_simp
  try simp only [Go.Law.pz]
  refine Go.Law.tk 14 ⟨some 17, .fieldAddr 38 (.tmp 1) 3, _, _, _, _⟩ (v := .pointer (some ⟨w.heap.size, 7, none⟩)) hS0 ?_ ?_
  · intro w' hSw
    go_simp
  try simp only [Go.Law.pz]
  refine Go.Law.tk 15 ⟨some 18, .load 22 (.tmp 17), _, _, _, _⟩ (v := .int .u64 (s : Int)) hS0 ?_ ?_
  · intro w' hSw
    obtain ⟨s0', s1', s2', s3', s4', s5', s6', s7'⟩ := hSw
    go_simp
  try simp only [Go.Law.pz]
  have HXa : Hid (Is w1.drew w.heap.size 38 #[.string u, .int .i64 a, .int .i64 b, .int .i64 c, .int .i64 a', .int .i64 b', .int .i64 c', .int .u64 (s : Int)]) := HX.out.drewN 1
  have HBa := Lib.hid (Law.below_drewN HB.out 1)
  have HTa := Lib.hid (HTb.out.below (Law.below_drewN (Below.refl _ w1) 1))
  refine wpAnyH_ready (rs := [2]) (by kernel_rfl) (by simp) ?_
  refine AllReadyH.cons (o := ⟨some 5, .call { callee := .value (.func 14), args := #[.tmp 4], argTypes := _ }, _, _, _, _⟩) rfl (fun K hK => ?_) AllReadyH.nil
  go_simp
  refine Calls.mono (quote u (by omega) w1.drew HTa.out) ?_
  rintro e vp ⟨rfl, bx⟩
  have HXp := Lib.hid (HXa.out.below bx HXa.out.lt)
  have HBp := Lib.hid (HBa.out.trans (bx.mono HBa.out.size))
  have HTp := Lib.hid (HTa.out.below bx)
  clear bx
  go_wp2_with fail
  refine hK.out _ _ ⟨HXp.out.cell' rfl, HXp.out.cell' rfl, HXp.out.cell' rfl, HXp.out.cell' rfl, HXp.out.cell' rfl, HXp.out.cell' rfl, HXp.out.cell' rfl, HXp.out.cell' rfl⟩ (fun hSp => ?_)
  clear hK K
  try simp only [Go.Law.pz]
  refine Go.Law.tk 3 ⟨some 6, .binOp .add 9 (.tmp 5) (.const (.string ⟨#[58]⟩)) 9, _, _, _, _⟩ (v := .string (quoteB u ++ ⟨#[58]⟩)) hSp ?_ ?_
  · intro w' hSw
    go_simp
    omega
  try simp only [Go.Law.pz]
  refine wpAnyH_ready (rs := [6]) (by kernel_rfl) (by simp) ?_
  refine AllReadyH.cons (o := ⟨some 9, .call { callee := .value (.func 19), args := #[.tmp 8], argTypes := _ }, _, _, _, _⟩) rfl (fun K hK => ?_) AllReadyH.nil
  go_simp
  refine Calls.mono (presence a b c ha hb hc vp HTp.out) ?_
  rintro e vq ⟨rfl, bx⟩
  have HXq := Lib.hid (HXp.out.below bx HXp.out.lt)
  have HBq := Lib.hid (HBp.out.trans (bx.mono HBp.out.size))
  have HTq := Lib.hid (HTp.out.below bx)
  clear bx
  go_wp2_with fail
  refine hK.out _ _ ⟨HXq.out.cell' rfl, HXq.out.cell' rfl, HXq.out.cell' rfl, HXq.out.cell' rfl, HXq.out.cell' rfl, HXq.out.cell' rfl, HXq.out.cell' rfl, HXq.out.cell' rfl⟩ (fun hSq => ?_)
  clear hK K
  try simp only [Go.Law.pz]
  refine Go.Law.tk 7 ⟨some 10, .binOp .add 9 (.tmp 6) (.tmp 9) 9, _, _, _, _⟩ (v := .string ((quoteB u ++ ⟨#[58]⟩) ++ presB a b c)) hSq ?_ ?_
  · intro w' hSw
    go_simp
    omega
  try simp only [Go.Law.pz]
  refine Go.Law.tk 8 ⟨some 11, .binOp .add 9 (.tmp 10) (.const (.string ⟨#[62]⟩)) 9, _, _, _, _⟩ (v := .string (((quoteB u ++ ⟨#[58]⟩) ++ presB a b c) ++ ⟨#[62]⟩)) hSq ?_ ?_
  · intro w' hSw
    go_simp
    omega
  try simp only [Go.Law.pz]
  refine wpAnyH_ready (rs := [11]) (by kernel_rfl) (by simp) ?_
  refine AllReadyH.cons (o := ⟨some 14, .call { callee := .value (.func 19), args := #[.tmp 13], argTypes := _ }, _, _, _, _⟩) rfl (fun K hK => ?_) AllReadyH.nil
  go_simp
  refine Calls.mono (presence a' b' c' ha' hb' hc' vq HTq.out) ?_
  rintro e vr ⟨rfl, bx⟩
  have HXr := Lib.hid (HXq.out.below bx HXq.out.lt)
  have HBr := Lib.hid (HBq.out.trans (bx.mono HBq.out.size))
  have HTr := Lib.hid (HTq.out.below bx)
  clear bx
  go_wp2_with fail
  refine hK.out _ _ ⟨HXr.out.cell' rfl, HXr.out.cell' rfl, HXr.out.cell' rfl, HXr.out.cell' rfl, HXr.out.cell' rfl, HXr.out.cell' rfl, HXr.out.cell' rfl, HXr.out.cell' rfl⟩ (fun hSr => ?_)
  clear hK K
  try simp only [Go.Law.pz]
  refine Go.Law.tk 12 ⟨some 15, .binOp .add 9 (.tmp 11) (.tmp 14) 9, _, _, _, _⟩ (v := .string ((((quoteB u ++ ⟨#[58]⟩) ++ presB a b c) ++ ⟨#[62]⟩) ++ presB a' b' c')) hSr ?_ ?_
  · intro w' hSw
    go_simp
    omega
  try simp only [Go.Law.pz]
  refine Go.Law.tk 13 ⟨some 16, .binOp .add 9 (.tmp 15) (.const (.string ⟨#[64]⟩)) 9, _, _, _, _⟩ (v := .string (((((quoteB u ++ ⟨#[58]⟩) ++ presB a b c) ++ ⟨#[62]⟩) ++ presB a' b' c') ++ ⟨#[64]⟩)) hSr ?_ ?_
  · intro w' hSw
    go_simp
    omega
  try simp only [Go.Law.pz]
  refine wpAnyH_ready (rs := [16]) (by kernel_rfl) (by simp) ?_
  refine AllReadyH.cons (o := ⟨some 19, .call { callee := .value (.func 16), args := #[.tmp 18], argTypes := _ }, _, _, _, _⟩) rfl (fun K hK => ?_) AllReadyH.nil
  go_simp
  refine Calls.mono (digU s hs vr HTr.out) ?_
  rintro e vt ⟨rfl, bx⟩
  have HXt := Lib.hid (HXr.out.below bx HXr.out.lt)
  have HBt := Lib.hid (HBr.out.trans (bx.mono HBr.out.size))
  have HTt := Lib.hid (HTr.out.below bx)
  clear bx
  go_wp2_with fail
  refine hK.out _ _ ⟨HXt.out.cell' rfl, HXt.out.cell' rfl, HXt.out.cell' rfl, HXt.out.cell' rfl, HXt.out.cell' rfl, HXt.out.cell' rfl, HXt.out.cell' rfl, HXt.out.cell' rfl⟩ (fun hSt => ?_)
  clear hK K
  try simp only [Go.Law.pz]
  refine Go.Law.tk 17 ⟨some 20, .binOp .add 9 (.tmp 16) (.tmp 19) 9, _, _, _, _⟩ (v := .string ((((((quoteB u ++ ⟨#[58]⟩) ++ presB a b c) ++ ⟨#[62]⟩) ++ presB a' b' c') ++ ⟨#[64]⟩) ++ decB s)) hSt ?_ ?_
  · intro w' hSw
    go_simp
    omega
  try simp only [Go.Law.pz]
  refine Go.Law.tk 18 ⟨some 2, .assign (.tmp 20), _, _, _, _⟩ (v := .string ((((((quoteB u ++ ⟨#[58]⟩) ++ presB a b c) ++ ⟨#[62]⟩) ++ presB a' b' c') ++ ⟨#[64]⟩) ++ decB s)) hSt ?_ ?_
  · intro w' hSw
    go_simp
  try simp only [Go.Law.pz]
  refine wpAnyH_done (by kernel_rfl) ?_ _
  go_wp2_with fail
  go_ret
  exact ⟨rfl, HBt.out⟩
end Opx
end Go.Proofs.YtdfonlbbohnfhaaDoor
