/-
  What the calls of a queue (layer 3) of events come to: New, Put, Len, Lost.
-/
import Derived.Test.YtohdlnefgieenaaGreatJ4
import Derived.Test.YtohdlnefgieenaaGreatJ15
import Derived.WalkKit
import Derived.WalkSpells
import Derived.WalkLawsBesides
import Derived.Lib.Hide
import Derived.StillTailTactics
import Derived.Deep.QuietTactic
import Derived.BigQuiet
import Derived.Deep.RegionLaw
import Derived.Deep.DeepCutAuto
import Derived.RangeFuncNested
import Derived.RangeFuncLeaves
import Derived.RangeFuncBound
import Derived.RangeFuncCalls
import Derived.Shelf.Abstract
import Derived.OwnWalkIn
import Derived.TacticsInMore
import Derived.LoopNIn
import Derived.LoopIn
import Derived.Test.YtohdlnefgieenaaGreatJ3
import Derived.Lib.QuietBelow
namespace Go.Proofs.YtohdlnefgieenaaGreat
open Go.RowKit
namespace RingE
open Go.Law (Ev flatE cellsE new_E one_E)
/-- block b is a queue of these events -/
abbrev At (w : World) (base : Nat) (S : Nat → Prop) (b room : Nat) (zs : List Ev) (lost : Bool) : Prop := Law.Ringz 159 63 8 w base S b room zs.length (flatE zs) lost
theorem elem : ∃ i, Law.Elem Tryz.prog 41 63 i (.agg #[.string ⟨#[]⟩, .int .i64 0, .int .i64 0, .int .i64 0, .int .i64 0, .int .i64 0, .int .i64 0, .int .u64 0]) 8 72 := Law.Elem.of Tryz.underlying41 (by kernel_rfl) rfl (by decide)
/-- behind a Put -/
def Put (w : World) (base : Nat) (S : Nat → Prop) (b room : Nat) (zs : List Ev) (lost : Bool) (x : Ev) (e : Ending) (w' : World) : Prop :=
  e = .returned (.bool (decide (zs.length < room))) ∧ ∃ S', At w' base S' b room (Law.putL room zs x) (lost || decide (room ≤ zs.length)) ∧ Law.Touch w w' S ∧ (∀ k, S' k → S k ∨ w.heap.size ≤ k) ∧ ∀ t, t ≠ 159 → t ≠ 63 → Law.Keeps t w w'

set_option maxHeartbeats 400000 in
theorem new (room : Int) (w : World) : Calls Tryz.prog 53 #[.int .i64 room] w fun e w' => e = .returned (.pointer (some ⟨w.heap.size, 0, none⟩)) ∧ w.alloc (.cells #[.int .i64 (room.toNat : Int), .slice none 0 0, .bool false] 159) = w' := by
  have hm : ((room.toNat : Nat) : Int) = max room 0 := by omega
  have HM := Lib.hid hm
  clear hm
  go_enter Tryz.func53, Tryz.ntmps53
  go_wp2_with fail
  · have e1 : max room 0 = 0 := by omega
    go_ret
    exact ⟨rfl, by rw [e1]⟩
  · have e1 : max room 0 = room := by omega
    go_ret
    exact ⟨rfl, by rw [e1]⟩

theorem Evs.of {w : World} {g : Nat} {t : TypeId} {x : Ev} (h : Law.Is w g t x.box) : Law.EvAt w g 0 x := ⟨h.cell' rfl, h.cell' rfl, h.cell' rfl, h.cell' rfl, h.cell' rfl, h.cell' rfl, h.cell' rfl, h.cell' rfl⟩
set_option maxRecDepth 100000 in
set_option maxHeartbeats 1600000 in
theorem put (x : Ev) (zs : List Ev) (lost : Bool) (w : World) (base : Nat) (S : Nat → Prop) (b room : Nat) (h : At w base S b room zs lost) (hb : base ≤ w.heap.size) (hl : zs.length ≤ 1000) :
    Calls Tryz.prog 108 #[.pointer (some ⟨b, 0, none⟩), x.val] w (Put w base S b room zs lost x) := by
  obtain ⟨v, hv⟩ := h
  obtain ⟨i0, hE⟩ := elem
  have HE := Lib.hid hE
  have b1 : Below w.heap.size w (w.alloc (.cells x.box 63)) := (Below.refl _ w).alloc (Nat.le_refl _) _
  have hv1 := hv.below b1
  have hi1 : Law.Is (w.alloc (.cells x.box 63)) w.heap.size 63 x.box := Law.Is.new _ _ _ rfl
  have hs1 : w.heap.size < (w.alloc (.cells x.box 63)).heap.size := by simp
  have T1 := Lib.hid (Law.Touch.of_below b1 S)
  have K1 : Hid (∀ t, Law.Keeps t w (w.alloc (.cells x.box 63))) := fun t => Law.Keeps.alloc _
  have HV := Lib.hid hv1
  have HI := Lib.hid hi1
  obtain ⟨A, c, rfl, hc⟩ := Law.own_shape hv.row
  have c0 := hv1.box.cell 0
  have c1 := hv1.box.cell 1
  simp only [List.getElem?_toArray, List.getElem?_cons_zero, List.getElem?_cons_succ] at c0 c1
  clear hv hE b1 hv1 hi1
  by_cases hlt : zs.length < room
  · have d1 : decide ((room : Int) ≤ (zs.length : Int)) = false := by simp; omega
    have HP : Hid (decide (zs.length < room) = true ∧ decide (room ≤ zs.length) = false ∧ Law.putL room zs x = zs ++ [x]) := by exact ⟨by simp; omega, by simp; omega, Law.putL_yes hlt⟩
    go_enter Tryz.func108, Tryz.ntmps108
    go_wp2_with fail
    generalize w.alloc (.cells x.box 63) = W1 at *
    go_quiet (fail)
    go_wp2_with fail
    have V2 := Lib.hid (HV.out.drewN nq)
    have I2 := Lib.hid (HI.out.drewN nq)
    have T2 := Lib.hid (T1.out.trans (Law.Touch.drewN W1 nq S) (fun k hk => .inl hk))
    have K2 : Hid (∀ t, Law.Keeps t w (W1.drewN nq)) := fun t => (K1.out t).trans (Law.Keeps.drewN t W1 nq)
    have hs2 : w.heap.size < (W1.drewN nq).heap.size := hs1
    clear HV HI T1 K1 hs1 c0 c1
    generalize W1.drewN nq = W2 at *
    have c1 := V2.out.box.cell 1
    simp only [List.getElem?_toArray, List.getElem?_cons_zero, List.getElem?_cons_succ] at c1
    obtain ⟨e0, e1, e2, e3, e4, e5, e6, e7⟩ := Evs.of I2.out
    simp only [Nat.zero_add] at e1 e2 e3 e4 e5 e6 e7
    have O2 := Lib.hid (V2.out.row.alloc (.cells x.box 63))
    have V3 : Hid (Law.RingzV _ _ _ W2.drew _ _ _ _ _ _ _ _) := V2.out.drewN 1
    have T3 : Hid (Law.Touch w W2.drew S) := T2.out.trans (Law.Touch.drewN W2 1 S) (fun k hk => .inl hk)
    have K3 : Hid (∀ t, Law.Keeps t w W2.drew) := fun t => (K2.out t).trans (Law.Keeps.drewN t W2 1)
    have hs3 : w.heap.size < W2.drew.heap.size := hs2
    have l0 := V2.out.box.lt
    have c1a : (W2.alloc (.cells x.box 63)).cell? ⟨b, 1, none⟩ = some (.slice A zs.length c) := (World.cell?_alloc_lt W2 _ ⟨b, 1, none⟩ l0).trans c1
    go_region_law (refine Law.step_append_at (base := 0) (t := 41) rfl (.tmp 22) (.tmp 24) rfl HE.out (.slice A zs.length c) zs.length (flatE zs) (by simp [Act.eval]) (by exact O2.out) ⟨W2.heap.size, 0, none⟩ 1 1 (cellsE x) (by simp [Act.eval]) (by rfl) (by exact new_E W2 x _ rfl) (one_E x) (by unfold maxLen; omega) (by omega) (by omega) ?_; intro v' w1 hown hg hv'; have ⟨R1, R2, R3⟩ := V3.out.next (by decide) (by omega) (v' := v') (us := cellsE x) hown hg (by simpa using hv'); have f1' := R1.frozen 1; have c1' := R1.cell 1; have l1' := R1.lt; simp only [List.getElem?_toArray, List.getElem?_cons_zero, List.getElem?_cons_succ] at c1'; have HR2 := Lib.hid R2; have HR3 := Lib.hid R3; have HK : Hid (∀ t, t ≠ 159 → t ≠ 63 → Law.Keeps t w (w1.setCell ⟨b, 1, none⟩ v')) := fun t h1 h2 => (((K3.out t).trans (Law.Keeps.alloc _)).trans (Law.Keeps.grown (V3.out.row.alloc _) hg (Ne.symm h2))).trans (Law.Keeps.store R1 h1 _); obtain ⟨g', cap', rfl⟩ := ownsRow_succ hown; clear hown hg hv' R1 R2 R3)
    all_goals
      go_wp2_with fail
      go_ret
      exact ⟨by rw [HP.out.1]; rfl, (fun k => S k ∨ W2.drew.heap.size ≤ k ∧ k < w1.heap.size), by rw [HP.out.2.1, HP.out.2.2, Bool.or_false]; unfold At; rw [Law.flatE_snoc, List.length_append]; exact HR2.out, T3.out.trans HR3.out (fun k hk => .inl hk), fun k hk => hk.imp id (fun h => by omega), HK.out⟩
  · have d1 : decide ((room : Int) ≤ (zs.length : Int)) = true := by simp; omega
    have HP : Hid (decide (zs.length < room) = false ∧ decide (room ≤ zs.length) = true ∧ Law.putL room zs x = zs) := by exact ⟨by simp; omega, by simp; omega, Law.putL_no hlt⟩
    go_enter Tryz.func108, Tryz.ntmps108
    go_wp2_with fail
    generalize w.alloc (.cells x.box 63) = W1 at *
    go_quiet (fail)
    have c2 := (HV.out.drewN nq).box.cell 2
    have f2 := (HV.out.drewN nq).box.frozen 2
    have l0 := (HV.out.drewN nq).box.lt
    simp only [List.getElem?_toArray, List.getElem?_cons_zero, List.getElem?_cons_succ] at c2
    go_wp2_with fail
    go_ret
    exact ⟨by rw [HP.out.1]; rfl, S, by rw [HP.out.2.1, HP.out.2.2, Bool.or_true]; exact (HV.out.drewN nq).mark (by decide), (T1.out.trans (Law.Touch.drewN W1 nq S) (fun k hk => .inl hk)).trans (Law.Touch.store _ _ _ HV.out.inn) (fun k hk => .inl hk), fun k hk => .inl hk,
      fun t h1 _ => ((K1.out t).trans (Law.Keeps.drewN t W1 nq)).trans (Law.Keeps.store (HV.out.drewN nq).box h1 _)⟩
end RingE
end Go.Proofs.YtohdlnefgieenaaGreat
/-
  What All and Drain of a queue (layer 3) of events come to.
-/
namespace Go.Proofs.YtohdlnefgieenaaGreat
open Go.RowKit Go.Shelf
attribute [local go_sem] Oper.semAt_some
namespace RingE
open Go.Law (Ev flatE cellsE new_E one_E)

set_option maxHeartbeats 400000 in
theorem all_in (F : Fence) (n : Nat) (hF : ∀ f, F.fn f) (hro : F.round = none) (w : World) (b : Nat) (A : Option Addr) (m c : Nat) (hc : w.cell? ⟨b, 1, none⟩ = some (.slice A m c)) :
    CallsIn F n Tryz.prog 115 #[.pointer (some ⟨b, 0, none⟩)] w fun e w' => e = .returned (.func (.func 129) #[] #[.pointer (some ⟨w.heap.size, 0, none⟩)]) ∧ w.alloc (.cells #[.slice A m c] 41) = w' := by
  refine callsIn_of_wp Tryz.func115 rfl (hF _) ?_ hro
  simp only [Tryz.ntmps115, List.size_toArray, List.length_cons, List.length_nil, Nat.reduceAdd, Nat.reduceSub, Array.replicate_succ, Array.replicate_zero, List.push_toArray, List.append_toArray, List.nil_append, List.cons_append]
  gi_wp2
  go_ret
  exact ⟨rfl, rfl⟩

set_option maxRecDepth 100000 in
set_option maxHeartbeats 2000000 in
theorem all1_in (F : Fence) (n : Nat) (hF : ∀ f, F.fn f) (hro : F.round = none) (hn : 1 ≤ n) (l Bs n₀ c : Nat) (A : Option Addr) (zs : List Ev) (hl : zs.length ≤ 1000) (J Jx : List Ev → World → Prop)
    (hA : ∀ pre W o, J pre W → J pre (World.alloc W o))
    (hY : ∀ pre x W, J pre W → pre.length < zs.length → YieldAt F (n - 1) Tryz.prog l #[x.val] W fun e W' =>
      (e = .returned (.bool true) ∧ J (pre ++ [x]) W' ∧ Below n₀ W W') ∨ (e = .returned (.bool false) ∧ Jx (pre ++ [x]) W'))
    (W : World) (hBs : W.cell? ⟨Bs, 0, none⟩ = some (.slice A zs.length c)) (hn₀ : n₀ ≤ W.heap.size) (hs : Law.Seq W 0 n₀ A (flatE zs)) (h0 : J [] W) :
    CallsIn F n Tryz.prog 129 #[.func (.yield l) #[] #[], .pointer (some ⟨Bs, 0, none⟩)] W fun e W' => (∃ v, e = .returned v) ∧
      ((∃ ys, ys = zs ∧ J ys W') ∨ (∃ pre, pre <+: zs ∧ Jx pre W')) := by
  have HS := Lib.hid hs
  clear hs
  refine callsIn_of_wp Tryz.func129 rfl (hF _) ?_ hro
  simp only [Tryz.ntmps129, List.size_toArray, List.length_cons, List.length_nil, Nat.reduceAdd, Nat.reduceSub, Array.replicate_succ, Array.replicate_zero, List.push_toArray, List.append_toArray, List.nil_append, List.cons_append]
  gi_wp2
  gi_loopw [7] (fun i wr => ∃ k : Nat, k ≤ zs.length ∧ i = .int .i64 k ∧ J (zs.take k) wr ∧ Below n₀ W wr) (fun i _ => zs.length - (intOf i).toNat)
  case atStart => exact ⟨0, Nat.zero_le _, rfl, by simpa using h0, Below.refl _ _⟩
  case round =>
    obtain ⟨k, hk, rfl, hJs, hnx⟩ := hrel
    have HX := Lib.hid hnx
    have HJ := Lib.hid hJs
    have sb := hnx.size
    clear hnx hJs
    by_cases hlt : k < zs.length
    · have ht := Lib.hid (List.take_succ_eq_append_getElem hlt)
      have hp := Lib.hid (List.take_prefix (k + 1) zs)
      obtain ⟨b, off, rfl, _, hb, q0, q1, q2, q3, q4, q5, q6, q7⟩ := (HS.out.below HX.out).ev hlt
      have lb : b < wr.heap.size := by omega
      have hpl : (zs.take k).length ≤ k := by simp; omega
      generalize zs.take k = os at *
      generalize zs[k] = q at *
      obtain ⟨x0, x1, x2, x3, x4, x5, x6, x7⟩ := q
      simp only at q0 q1 q2 q3 q4 q5 q6 q7
      have HX2 := Lib.hid (HX.out.alloc (by omega) (.cells #[.string x0, .int .i64 x1, .int .i64 x2, .int .i64 x3, .int .i64 x4, .int .i64 x5, .int .i64 x6, .int .u64 x7] 63))
      have HJ2 := Lib.hid (hA os wr (.cells #[.string x0, .int .i64 x1, .int .i64 x2, .int .i64 x3, .int .i64 x4, .int .i64 x5, .int .i64 x6, .int .u64 x7] 63) HJ.out)
      obtain ⟨fn, tmps, assign, body, hy, hR⟩ : YieldAt F (n - 1) Tryz.prog l #[.agg #[.string x0, .int .i64 x1, .int .i64 x2, .int .i64 x3, .int .i64 x4, .int .i64 x5, .int .i64 x6, .int .u64 x7]] (wr.alloc (.cells #[.string x0, .int .i64 x1, .int .i64 x2, .int .i64 x3, .int .i64 x4, .int .i64 x5, .int .i64 x6, .int .u64 x7] 63)) _ := hY os ⟨x0, x1, x2, x3, x4, x5, x6, x7⟩ _ HJ2.out (by omega)
      gi_wp2
      refine hR.mono ?_
      rintro e W3 (⟨rfl, hJ3, hk3⟩ | ⟨rfl, hJx3⟩)
      · gi_wp2
        go_roundw
        case rel => exact ⟨k + 1, by omega, by go_num, by rw [ht.out]; exact hJ3, HX2.out.trans hk3⟩
        case measure => simp [intOf]; omega
      · gi_wp2
        refine bodyPost_ret (results_none rfl _ _ _) rfl ?_
        exact ⟨⟨_, rfl⟩, .inr ⟨_, by rw [← ht.out]; exact hp.out, hJx3⟩⟩
    · rw [List.take_of_length_le (by omega)] at HJ
      gi_wp2
      go_end0
      exact ⟨⟨_, rfl⟩, .inl ⟨_, rfl, HJ.out⟩⟩

theorem all_stops (F : Fence) (n : Nat) (hF : ∀ f, F.fn f) (hro : F.round = none) (hn : 1 ≤ n) (Bs n₀ c : Nat) (A : Option Addr) (zs : List Ev) (hl : zs.length ≤ 1000) (w : World) (hBs : Bs < w.heap.size) (hn₀ : n₀ ≤ w.heap.size)
    (hc : w.cell? ⟨Bs, 0, none⟩ = some (.slice A zs.length c)) (hs : Law.Seq w 0 n₀ A (flatE zs)) :
    SeqStopsK F n Tryz.prog 129 #[.pointer (some ⟨Bs, 0, none⟩)] (fun x : Ev => #[x.val]) (Below n₀) (fun ys => ys = zs) (fun pre => pre <+: zs) zs.length w := fun l J Jx W hW hJ _ hY h0 =>
  all1_in F n hF hro hn l Bs n₀ c A zs hl J Jx (fun pre W o h => hJ pre W _ none h (World.grownBy_alloc W o none) (fun r e => by cases e)) hY W ((hW.cell (p := ⟨Bs, 0, none⟩) hBs).trans hc) (Nat.le_trans hn₀ hW.size) (hs.below (hW.mono hn₀)) h0

theorem own_is {β : Type} {B g : Nat} {t : TypeId} (cs : β → Array Value) : OwnFrom B (fun s W => Law.Is W g t (cs s)) := fun s W W' row hs hg hr => by
  refine (hg.block g hs.lt ?_).trans hs
  intro e
  obtain ⟨_, o, ho, hc⟩ := hr g e.symm
  rw [show W.heap[g]? = _ from hs] at ho
  cases ho
  cases hc
/-- behind a Drain -/
def Drained (w : World) (base : Nat) (S : Nat → Prop) (b room : Nat) (zs : List Ev) (lost : Bool) (e : Ending) (w' : World) : Prop :=
  ∃ A c, e = .returned (.tuple #[.slice A zs.length c, .bool lost]) ∧ zs.length ≤ c ∧ Law.Seq w' w.heap.size w'.heap.size A (flatE zs) ∧ At w' base S b room [] false ∧ Law.Touch w w' (fun k => k = b)

set_option maxRecDepth 100000 in
set_option maxHeartbeats 2000000 in
theorem drain_in (n : Nat) (hn : 4 ≤ n) (w : World) (base : Nat) (S : Nat → Prop) (b room : Nat) (zs : List Ev) (lost : Bool) (h : At w base S b room zs lost) (hl : zs.length ≤ 1000) :
    CallsIn Fence.wide n Tryz.prog 98 #[.pointer (some ⟨b, 0, none⟩)] w (Drained w base S b room zs lost) := by
  have h1 : 1 ≤ n := by omega
  have hF : ∀ f, Fence.wide.fn f := fun _ => trivial
  have hro : Fence.wide.round = none := rfl
  obtain ⟨v, hv⟩ := h
  obtain ⟨i0, hE⟩ := elem
  have HE := Lib.hid hE
  have c1 := hv.box.cell 1
  have l0 := hv.box.lt
  obtain ⟨A, c, rfl, hcl⟩ := Law.own_shape hv.row
  have HV := Lib.hid hv
  simp only [List.getElem?_toArray, List.getElem?_cons_zero, List.getElem?_cons_succ] at c1
  clear hv hE
  refine callsIn_of_wp_marks Tryz.func98 rfl (hF _) ?_ hro
  simp only [Tryz.ntmps98, List.size_toArray, List.length_cons, List.length_nil, Nat.reduceAdd, Nat.reduceSub, Array.replicate_succ, Array.replicate_zero, List.push_toArray, List.append_toArray, List.nil_append, List.cons_append]
  gi_wp2_with (gi_at_make; refine wpListIn_make_own _ rfl _ _ 41 rfl w.heap.size 63 i0 (.agg #[.string ⟨#[]⟩, .int .i64 0, .int .i64 0, .int .i64 0, .int .i64 0, .int .i64 0, .int .i64 0, .int .u64 0]) 8 HE.out.ut HE.out.info HE.out.zero HE.out.sz .i64 .i64 (zs.length : Int) zs.length rfl rfl rfl (by rw [HE.out.by_]; omega) (by unfold maxLen; omega) (Nat.le_refl _) ?_; intro w1 hown hgrow)
  have hs1 : w.heap.size < w1.heap.size := (hown.lt _ rfl).2
  have c1' : (w1.alloc (.cells #[.slice (some ⟨w.heap.size, 0, none⟩) 0 zs.length] 41)).cell? ⟨b, 1, none⟩ = some (.slice A zs.length c) :=
    (World.cell?_alloc_lt _ _ ⟨b, 1, none⟩ (by show b < _; omega)).trans ((World.cell?_of_block (hgrow.block b l0 (by simp))).trans c1)
  refine (all_in Fence.wide (n - 1) hF hro _ b A zs.length c c1').mono ?_
  rintro e w' ⟨rfl, rfl⟩
  have bO : Boxed ((w1.alloc (.cells #[.slice (some ⟨w.heap.size, 0, none⟩) 0 zs.length] 41)).alloc (.cells #[.slice A zs.length c] 41)) w1.heap.size 41 (.slice (some ⟨w.heap.size, 0, none⟩) 0 zs.length) := (Boxed.new w1 41 _).alloc _
  have bN := Boxed.new (w1.alloc (.cells #[.slice (some ⟨w.heap.size, 0, none⟩) 0 zs.length] 41)) 41 (.slice A zs.length c)
  have hB0 : Below w.heap.size w ((w1.alloc (.cells #[.slice (some ⟨w.heap.size, 0, none⟩) 0 zs.length] 41)).alloc (.cells #[.slice A zs.length c] 41)) :=
    ((((Below.refl _ w).grown hgrow (Nat.le_refl _) (by simp)).alloc (by omega) _).alloc (by simp; omega) _)
  have hO0 := (hown.alloc (.cells #[.slice (some ⟨w.heap.size, 0, none⟩) 0 zs.length] 41)).alloc (.cells #[.slice A zs.length c] 41)
  have hsz : ((w1.alloc (.cells #[.slice (some ⟨w.heap.size, 0, none⟩) 0 zs.length] 41)).alloc (.cells #[.slice A zs.length c] 41)).heap.size = w1.heap.size + 2 := by simp
  simp only [World.size_alloc] at bN ⊢
  generalize ((w1.alloc (.cells #[.slice (some ⟨w.heap.size, 0, none⟩) 0 zs.length] 41)).alloc (.cells #[.slice A zs.length c] 41)) = W0 at *
  have HO := Lib.hid hO0
  have HB0 := Lib.hid hB0
  have hrow := HV.out.row
  have HS : Hid (Law.Seq W0 0 w.heap.size A (flatE zs)) := (Law.Seq.own hrow).below hB0
  clear hown hgrow c1' hO0 hB0 c1 hrow
  gi_wp2
  refine wpIn_rangeFunc_ownH hro h1 (gf := 129) (lb := #[.pointer (some ⟨w1.heap.size + 1, 0, none⟩)]) rfl (hF _) (enters_of Tryz.func129 (by kernel_rfl) rfl)
    (all_stops Fence.wide (n - 1) hF hro (by omega) (w1.heap.size + 1) w.heap.size c A zs hl W0 (by omega) (by omega) bN.cell HS.out) belowK_t (belowK_b (by omega)) (Below.refl _ _) (fun _ => rfl)
    (fun pre W => (∃ v, Boxed W w1.heap.size 41 v ∧ W.ownsRow w.heap.size 63 8 v pre.length (flatE pre) ∧ True) ∧ Below w.heap.size w W)
    (fun _ _ _ => False)
    (OwnFrom.and (Own.from (holdsRow_own w.heap.size w1.heap.size 41 63 8 (fun pre : List Ev => pre.length) (fun pre => flatE pre) (fun _ _ => True)) _) (ownFrom_below (Nat.le_refl _) (by omega)))
    (fun _ _ _ _ _ hs _ _ => hs)
    ⟨⟨_, bO, HO.out, trivial⟩, HB0.out⟩
    (fun x a' W => ∃ Bx, w1.heap.size < Bx ∧ Law.Is W Bx 63 x.box ∧ a' = { tmps := #[.pointer (some ⟨b, 0, none⟩), undef, .slice none 0 0, .bool false, .pointer (some ⟨w1.heap.size, 0, none⟩), .pointer (some ⟨Bx, 0, none⟩), undef, .pointer (some ⟨b, 0, none⟩), .pointer (some ⟨b, 0, none⟩), .pointer (some ⟨b, 1, none⟩), .slice A zs.length c, .int .i64 (zs.length : Int), .slice (some ⟨w.heap.size, 0, none⟩) 0 zs.length, .pointer (some ⟨b, 0, none⟩), .func (.func 129) #[] #[.pointer (some ⟨w1.heap.size + 1, 0, none⟩)], x.val, undef, undef, undef, undef, undef, undef, undef, undef, undef, undef, undef, undef, undef, undef, undef, undef], defers := [] })
    (fun x a' _ X Y row hs hg hr => by obtain ⟨Bx, h1, h3, h4⟩ := hs; exact ⟨Bx, h1, own_is (fun (_ : Unit) => x.box) () X Y row h3 hg hr, h4⟩)
    ?assign ?body ?done ?stop
  case assign =>
    rintro l pre ⟨x0, x1, x2, x3, x4, x5, x6, x7⟩ W K ⟨⟨v, hv, hrow, _⟩, hB⟩ hK
    have hbW := hB.size
    have hlW := hv.lt
    gi_wp2
    exact hK _ _ ((KeepsOthers.alloc _ _).from _) ((Below.refl _ W).alloc (by omega) _) ⟨⟨v, hv.alloc _, hrow.alloc _, trivial⟩, hB.alloc (by omega) _⟩ ⟨W.heap.size, hlW, Law.Is.new W _ _ rfl, rfl⟩
  case body =>
    rintro l pre ⟨x0, x1, x2, x3, x4, x5, x6, x7⟩ a' W hl ⟨r, hr⟩ ⟨⟨v, hv, hrow, _⟩, hB⟩ ⟨Bx, hBx, iX, rfl⟩ hlt
    have hc := hv.cell
    have lX := iX.lt
    obtain ⟨q0, q1, q2, q3, q4, q5, q6, q7⟩ := Evs.of iX
    simp only [Nat.zero_add] at q0 q1 q2 q3 q4 q5 q6 q7
    have hbW := hB.size
    gi_wp2_with (gi_at_builtin; refine wpListIn_append_own _ rfl _ _ 41 rfl w.heap.size 63 i0 (.agg #[.string ⟨#[]⟩, .int .i64 0, .int .i64 0, .int .i64 0, .int .i64 0, .int .i64 0, .int .i64 0, .int .u64 0]) 8 72 HE.out.ut HE.out.info HE.out.zero HE.out.sz HE.out.by_ HE.out.cells HE.out.pos _ _ _ rfl (hrow.alloc _) ⟨W.heap.size, 0, none⟩ 1 1 (cellsE ⟨x0, x1, x2, x3, x4, x5, x6, x7⟩) rfl rfl (new_E _ ⟨x0, x1, x2, x3, x4, x5, x6, x7⟩ _ rfl) (one_E _) (by unfold maxLen; omega) (by omega) (by simp; omega) ?_; intro v' w2 hown' hgrow _; obtain ⟨g', cap', rfl⟩ := ownsRow_succ hown'; obtain ⟨hv1, hv2, hr2, hk2, hb2⟩ := hv.appended (by decide) hrow hB.size (by omega) hown' hgrow; have hc1 := hv1.cell; have hf1 := hv1.frozen)
    exact ⟨hk2.from _, hb2, ⟨_, hv2, by rw [Law.flatE_snoc]; simpa using hr2, trivial⟩, hB.trans hb2⟩
  case done =>
    rintro D ys W hD rfl ⟨⟨v, hv, hrow, _⟩, hB⟩ hK
    have hc := hv.cell
    have hbW := hB.size
    obtain ⟨Av, cv, rfl, hcv⟩ := Law.own_shape hrow
    have RV := Lib.hid (HV.out.below hB)
    have lb := RV.out.box.lt
    have hne : b ≠ w1.heap.size := by omega
    have c2 := RV.out.box.cell 2
    have f1 := RV.out.box.frozen 1
    have f2 := RV.out.box.frozen 2
    have c1 := RV.out.box.cell 1
    simp only [List.getElem?_toArray, List.getElem?_cons_zero, List.getElem?_cons_succ] at c1 c2
    gi_wp2
    have hK' : ((W.setCell ⟨b, 1, none⟩ (.slice none 0 0)).setCell ⟨b, 2, none⟩ (.bool false)).heap[D]? = some (.deferred (some [])) := ((KeepsOthers.setCell W _ _).trans (KeepsOthers.setCell _ _ _)).same D _ hK rfl
    refine ⟨by simp, .inl ⟨_, _, rfl, run_takeDeferred hK', ?_⟩⟩
    refine ⟨_, results_tmp2 rfl _ _ _, Av, cv, rfl, hcv, ?_⟩
    have t1 : Law.Touch W ((W.setCell ⟨b, 1, none⟩ (.slice none 0 0)).setCell ⟨b, 2, none⟩ (.bool false)) (fun k => k = b) := (Law.Touch.store (T := fun k => k = b) W ⟨b, 1, none⟩ _ rfl).trans (Law.Touch.store (T := fun k => k = b) _ ⟨b, 2, none⟩ _ rfl) (fun k hk => .inl hk)
    have t2 := Law.Touch.putObj ((W.setCell ⟨b, 1, none⟩ (.slice none 0 0)).setCell ⟨b, 2, none⟩ (.bool false)) D (.deferred none)
    have o1 := t1.own hrow (fun g hg e => by have := (hrow.lt g hg).1; omega)
    exact ⟨Law.Seq.own (ownsRow_putObj o1 _ hK' rfl), RV.out.emptied.touch t2 (fun k hk e => by have := (HV.out.ok k hk).2; omega),
      ((Law.Touch.of_below hB _).trans t1 (fun k hk => .inl hk)).trans t2 (fun k hk => .inr (by omega))⟩
  case stop =>
    rintro D c pre W _ _ h _
    exact h.elim
theorem drain {w : World} {base : Nat} {S : Nat → Prop} {b room : Nat} {zs : List Ev} {lost : Bool} (h : At w base S b room zs lost) (hl : zs.length ≤ 1000) :
    Calls Tryz.prog 98 #[.pointer (some ⟨b, 0, none⟩)] w (Drained w base S b room zs lost) :=
  (callsIn_wide (n := 4)).1 (drain_in 4 (Nat.le_refl _) w base S b room zs lost h hl)
end RingE
end Go.Proofs.YtohdlnefgieenaaGreat
/-
  What the calls of a feed (layer 9) come to: client, New, Watching, Count.
-/
namespace Go.Proofs.YtohdlnefgieenaaGreat
open Go.RowKit Go.Shelf
attribute [local go_sem] Oper.semAt_some
namespace Feed
open Go.Law
/-- whom each client watches, what was told to it, whether something was lost -/
structure St where
  wat : Nat → List (ByteArray × Int)
  que : Nat → List Ev
  los : Nat → Bool
def cellsF (p : Nat → Option Addr) (g : Nat → Nat) : Array Value := #[.pointer (p 0), .pointer (p 1), .pointer (p 2), .pointer (p 3), .pointer (p 4), .pointer (p 5), .pointer (p 6), .pointer (p 7),
  .pointer (some ⟨g 0, 0, none⟩), .pointer (some ⟨g 1, 0, none⟩), .pointer (some ⟨g 2, 0, none⟩), .pointer (some ⟨g 3, 0, none⟩), .pointer (some ⟨g 4, 0, none⟩), .pointer (some ⟨g 5, 0, none⟩), .pointer (some ⟨g 6, 0, none⟩), .pointer (some ⟨g 7, 0, none⟩)]
theorem cellsF_wat (p : Nat → Option Addr) (g : Nat → Nat) {k : Nat} (h : k < 8) : (cellsF p g)[k]? = some (.pointer (p k)) := by
  match k, h with
  | 0, _ | 1, _ | 2, _ | 3, _ | 4, _ | 5, _ | 6, _ | 7, _ => rfl
theorem cellsF_que (p : Nat → Option Addr) (g : Nat → Nat) {k : Nat} (h : k < 8) : (cellsF p g)[8 + k]? = some (.pointer (some ⟨g k, 0, none⟩)) := by
  match k, h with
  | 0, _ | 1, _ | 2, _ | 3, _ | 4, _ | 5, _ | 6, _ | 7, _ => rfl
theorem cellsF_set (p : Nat → Option Addr) (g : Nat → Nat) (q : Option Addr) {k : Nat} (h : k < 8) : (cellsF p g).setIfInBounds k (.pointer q) = cellsF (fun i => if i = k then q else p i) g := by
  match k, h with
  | 0, _ | 1, _ | 2, _ | 3, _ | 4, _ | 5, _ | 6, _ | 7, _ => rfl
/-- block b is a feed -/
structure FedV (w : World) (base : Nat) (S : Nat → Prop) (b room : Nat) (p : Nat → Option Addr) (g : Nat → Nat) (Sk : Nat → Nat → Prop) (s : St) : Prop where
  box : Is w b 121 (cellsF p g)
  tree : ∀ k, k < 8 → OmapU.At w w.heap.size (p k) (s.wat k)
  rise : ∀ k, k < 8 → Rises OmapU.lt (s.wat k)
  ring : ∀ k, k < 8 → RingE.At w base (Sk k) (g k) room (s.que k) (s.los k)
  apart : ∀ i j, i < 8 → j < 8 → i ≠ j → ∀ n, Sk i n → ¬ Sk j n
  out : ∀ k, k < 8 → ¬ Sk k b
  inn : S b
  sub : ∀ k, k < 8 → ∀ n, Sk k n → S n
  ok : ∀ n, S n → base ≤ n ∧ n < w.heap.size
def Fed (w : World) (base : Nat) (S : Nat → Prop) (b room : Nat) (s : St) : Prop := ∃ p g Sk, FedV w base S b room p g Sk s
section
variable {w w' : World} {base b room : Nat} {S T : Nat → Prop} {p : Nat → Option Addr} {g : Nat → Nat} {Sk : Nat → Nat → Prop} {s : St}
theorem FedV.touch (h : FedV w base S b room p g Sk s) (ht : Law.Touch w w' T) (hd : ∀ k, S k → ¬ T k) (hk : Keeps 200 w w') : FedV w' base S b room p g Sk s :=
  ⟨ht.is h.box (hd _ h.inn), fun k hk' => ((h.tree k hk').keeps hk).wide ht.size, h.rise, fun k hk' => (h.ring k hk').touch ht (fun n hn => hd n (h.sub k hk' n hn)), h.apart, h.out, h.inn, h.sub, fun n hn => ⟨(h.ok n hn).1, Nat.lt_of_lt_of_le (h.ok n hn).2 ht.size⟩⟩
theorem Fed.touch (h : Fed w base S b room s) (ht : Law.Touch w w' T) (hd : ∀ k, S k → ¬ T k) (hk : Keeps 200 w w') : Fed w' base S b room s := by
  obtain ⟨p, g, Sk, h⟩ := h
  exact ⟨p, g, Sk, h.touch ht hd hk⟩
theorem FedV.below (h : FedV w base S b room p g Sk s) (hb : Below w.heap.size w w') : FedV w' base S b room p g Sk s := h.touch (Law.Touch.of_below hb fun _ => False) (fun _ _ h => h) (Keeps.of_below hb)
theorem Fed.below (h : Fed w base S b room s) (hb : Below w.heap.size w w') : Fed w' base S b room s := h.touch (Law.Touch.of_below hb fun _ => False) (fun _ _ h => h) (Keeps.of_below hb)
theorem Fed.ok (h : Fed w base S b room s) : ∀ n, S n → base ≤ n ∧ n < w.heap.size := by obtain ⟨_, _, _, h⟩ := h; exact h.ok
theorem Fed.inn (h : Fed w base S b room s) : S b := by obtain ⟨_, _, _, h⟩ := h; exact h.inn
end
/-- only blocks of S have turned; what is of S' was of S, or is new -/
structure Went (w : World) (S : Nat → Prop) (w' : World) (S' : Nat → Prop) : Prop where
  touch : Law.Touch w w' S
  new : ∀ n, S' n → S n ∨ w.heap.size ≤ n
  calm : ∀ t, t ≠ 121 → t ≠ 159 → t ≠ 63 → Keeps t w w'
section
variable {w w' w'' : World} {S S' S'' : Nat → Prop}
theorem Went.refl (w : World) (S : Nat → Prop) : Went w S w S := ⟨Law.Touch.refl _ _, fun _ h => .inl h, fun t _ _ _ => Keeps.refl t w⟩
theorem Went.trans (h : Went w S w' S') (h' : Went w' S' w'' S'') : Went w S w'' S'' :=
  ⟨h.touch.trans h'.touch h.new, fun n hn => (h'.new n hn).elim (h.new n) (fun hl => .inr (Nat.le_trans h.touch.size hl)), fun t h1 h2 h3 => (h.calm t h1 h2 h3).trans (h'.calm t h1 h2 h3)⟩
theorem Went.of_below (hb : Below w.heap.size w w') : Went w S w' S := ⟨Law.Touch.of_below hb S, fun _ h => .inl h, fun _ _ _ _ => Keeps.of_below hb⟩
theorem Went.is (h : Went w S w' S') {g : Nat} {t : TypeId} {cs : Array Value} (hi : Is w g t cs) (hg : ¬ S g) : Is w' g t cs := h.touch.is hi hg
theorem Went.off (h : Went w S w' S') {g : Nat} (hl : g < w.heap.size) (hg : ¬ S g) : ¬ S' g := fun h' => (h.new g h').elim hg (fun h => by omega)
end
set_option maxHeartbeats 400000 in
theorem client_yes {k : Nat} (h : k < 8) (w : World) :
    Calls Tryz.prog 80 #[.int .i64 (k : Int)] w fun e w' => e = .returned (.bool true) ∧ w = w' := by
  have d1 : decide ((0 : Int) ≤ (k : Int)) = true := by simp
  have d2 : decide ((k : Int) < 8) = true := by simp; omega
  go_enter Tryz.func80, Tryz.ntmps80
  go_wp2
  go_ret
  exact ⟨rfl, rfl⟩
set_option maxHeartbeats 400000 in
theorem client_no {who : Int} (h : ¬ (0 ≤ who ∧ who < 8)) (w : World) :
    Calls Tryz.prog 80 #[.int .i64 who] w fun e w' => e = .returned (.bool false) ∧ w = w' := by
  by_cases h0 : 0 ≤ who
  · have d1 : decide ((0 : Int) ≤ who) = true := by simp; omega
    have d2 : decide (who < 8) = false := by simp; omega
    go_enter Tryz.func80, Tryz.ntmps80
    go_wp2
    go_ret
    exact ⟨rfl, rfl⟩
  · have d1 : decide ((0 : Int) ≤ who) = false := by simp; omega
    go_enter Tryz.func80, Tryz.ntmps80
    go_wp2
    go_ret
    exact ⟨rfl, rfl⟩
/-- whether a client watches a user -/
def St.has (s : St) (k : Nat) (u : ByteArray) : Bool := (getK u (s.wat k)).isSome
set_option maxHeartbeats 1000000 in
theorem watching {w : World} {base b room k : Nat} {S : Nat → Prop} {s : St} (h : Fed w base S b room s) (hk : k < 8) (u : ByteArray) :
    Calls Tryz.prog 77 #[.pointer (some ⟨b, 0, none⟩), .int .i64 (k : Int), .string u] w fun e w' => e = .returned (.bool (s.has k u)) ∧ Below w.heap.size w w' := by
  obtain ⟨p, g, Sk, h⟩ := h
  have HC := Lib.hid (client_yes hk)
  have HG := Lib.hid (OmapU.get u (h.tree k hk) (Nat.le_refl _) (h.rise k hk))
  have c0 : w.cell? ⟨b, k, none⟩ = some (.pointer (p k)) := (h.box.cell k).trans (by simpa using cellsF_wat p g hk)
  have hk1 : k ≤ 7 := by omega
  have lb := h.box.lt
  clear h
  go_enter Tryz.func77, Tryz.ntmps77
  go_wp2_with fail
  refine (HC.out w).mono ?_
  rintro e w' ⟨rfl, rfl⟩
  go_wp2_with fail
  refine HG.out.mono ?_
  rintro e w' ⟨rfl, hb⟩
  go_wp2_with fail
  go_ret
  exact ⟨rfl, hb.alloc hb.size _⟩
set_option maxHeartbeats 1000000 in
theorem watching_no {who : Int} (h : ¬ (0 ≤ who ∧ who < 8)) (b : Nat) (u : ByteArray) (w : World) :
    Calls Tryz.prog 77 #[.pointer (some ⟨b, 0, none⟩), .int .i64 who, .string u] w fun e w' => e = .returned (.bool false) ∧ w = w' := by
  have HC := Lib.hid (client_no h)
  clear h
  go_enter Tryz.func77, Tryz.ntmps77
  go_wp2_with fail
  refine (HC.out w).mono ?_
  rintro e w' ⟨rfl, rfl⟩
  go_wp2_with fail
  go_ret
  exact ⟨rfl, rfl⟩
set_option maxHeartbeats 1000000 in
theorem count {w : World} {base b room k : Nat} {S : Nat → Prop} {s : St} (h : Fed w base S b room s) (hk : k < 8) :
    Calls Tryz.prog 102 #[.pointer (some ⟨b, 0, none⟩), .int .i64 (k : Int)] w fun e w' => e = .returned (.int .i64 ((s.wat k).length : Int)) ∧ Below w.heap.size w w' := by
  obtain ⟨p, g, Sk, h⟩ := h
  have HC := Lib.hid (client_yes hk)
  have HG := Lib.hid (OmapU.len (h.tree k hk) (Nat.le_refl _))
  have c0 : w.cell? ⟨b, k, none⟩ = some (.pointer (p k)) := (h.box.cell k).trans (by simpa using cellsF_wat p g hk)
  have hk1 : k ≤ 7 := by omega
  have lb := h.box.lt
  clear h
  go_enter Tryz.func102, Tryz.ntmps102
  go_wp2_with fail
  refine (HC.out w).mono ?_
  rintro e w' ⟨rfl, rfl⟩
  go_wp2_with fail
  refine HG.out.mono ?_
  rintro e w' ⟨rfl, rfl⟩
  go_wp2_with fail
  go_ret
  exact ⟨rfl, (Below.refl _ w).alloc (Nat.le_refl _) _⟩
set_option maxHeartbeats 1000000 in
theorem count_no {who : Int} (h : ¬ (0 ≤ who ∧ who < 8)) (b : Nat) (w : World) :
    Calls Tryz.prog 102 #[.pointer (some ⟨b, 0, none⟩), .int .i64 who] w fun e w' => e = .returned (.int .i64 0) ∧ w = w' := by
  have HC := Lib.hid (client_no h)
  clear h
  go_enter Tryz.func102, Tryz.ntmps102
  go_wp2_with fail
  refine (HC.out w).mono ?_
  rintro e w' ⟨rfl, rfl⟩
  go_wp2_with fail
  go_ret
  exact ⟨rfl, rfl⟩
/-- a value put in place of that of k -/
def upd {α : Type} (f : Nat → α) (k : Nat) (a : α) : Nat → α := fun i => if i = k then a else f i
theorem upd_same {α : Type} (f : Nat → α) (k : Nat) (a : α) : upd f k a k = a := by simp [upd]
theorem upd_other {α : Type} (f : Nat → α) {k i : Nat} (a : α) (h : i ≠ k) : upd f k a i = f i := by simp [upd, h]
/-- whom client k watches is put -/
theorem FedV.watched {w w' : World} {base b room k : Nat} {S : Nat → Prop} {p : Nat → Option Addr} {g : Nat → Nat} {Sk : Nat → Nat → Prop} {s : St} (h : FedV w base S b room p g Sk s) (hk : k < 8) (hb : Below w.heap.size w w') {q : Option Addr} {zs : List (ByteArray × Int)} (hq : OmapU.At w' w'.heap.size q zs) (hz : Rises OmapU.lt zs) :
    FedV (w'.setCell ⟨b, k, none⟩ (.pointer q)) base S b room (upd p k q) g Sk { s with wat := upd s.wat k zs } := by
  have h' := h.below hb
  have ht := Law.Touch.store (T := fun n => n = b) w' ⟨b, k, none⟩ (.pointer q) rfl
  have hK := Keeps.store (t := 200) h'.box (by decide) (i := k) (.pointer q)
  refine ⟨?_, ?_, ?_, ?_, h.apart, h.out, h.inn, h.sub, ?_⟩
  · exact h'.box.set k (.pointer q) (cellsF_set _ _ _ hk)
  · intro i hi
    show OmapU.At _ _ (upd p k q i) (upd s.wat k zs i)
    by_cases e : i = k
    · subst e
      rw [upd_same, upd_same]
      exact (hq.keeps hK).wide ht.size
    · rw [upd_other _ _ e, upd_other _ _ e]
      exact ((h'.tree i hi).keeps hK).wide ht.size
  · intro i hi
    show Rises OmapU.lt (upd s.wat k zs i)
    by_cases e : i = k
    · subst e
      rw [upd_same]
      exact hz
    · rw [upd_other _ _ e]
      exact h.rise i hi
  · intro i hi
    exact (h'.ring i hi).touch ht (fun n hn e => h.out i hi (e ▸ hn))
  · intro n hn
    have := h'.ok n hn
    simpa using this
set_option maxRecDepth 100000 in
set_option maxHeartbeats 1000000 in
theorem watch {w : World} {base b room k : Nat} {S : Nat → Prop} {s : St} (h : Fed w base S b room s) (hk : k < 8) (u : ByteArray) (hl : (s.wat k).length ≤ 999) :
    Calls Tryz.prog 79 #[.pointer (some ⟨b, 0, none⟩), .int .i64 (k : Int), .string u] w fun e w' => e = .returned (.tuple #[]) ∧ Fed w' base S b room { s with wat := upd s.wat k (putK OmapU.lt u 0 (s.wat k)) } ∧ Went w S w' S := by
  obtain ⟨p, g, Sk, h⟩ := h
  have HC := Lib.hid (client_yes hk)
  have HF := Lib.hid h
  have HG := Lib.hid (OmapU.withM u 0 (h.tree k hk) (Nat.le_refl _) (h.rise k hk) hl)
  have c0 : w.cell? ⟨b, k, none⟩ = some (.pointer (p k)) := (h.box.cell k).trans (by simpa using cellsF_wat p g hk)
  have hk1 : k ≤ 7 := by omega
  have lb := h.box.lt
  clear h
  go_enter Tryz.func79, Tryz.ntmps79
  go_wp2_with fail
  refine (HC.out w).mono ?_
  rintro e w' ⟨rfl, rfl⟩
  go_wp2_with fail
  have HF1 : Hid (FedV w.drew base S b room p g Sk s) := HF.out.touch (Law.Touch.drewN w 1 fun _ => False) (fun _ _ h => h) (Keeps.drewN _ w 1)
  have hbd : Below w.heap.size w w.drew := Law.below_drewN (Below.refl _ w) 1
  have HBD := Lib.hid hbd
  have HZ := Lib.hid (putK_rises OmapU.lt OmapU.tri (k := u) (v := (0 : Int)) (HF.out.rise k hk))
  clear hbd
  refine wp_region_held_drew (S := fun _ => True) (by kernel_rfl) trivial (fun hS0 => ?_)
  refine wpAnyH_take (i := 0) (oi := { dst := some 8, op := .move (.tmp 0), type := _, pos := _, after := _, guard := _ }) (v := .pointer (some ⟨b, 0, none⟩)) rfl (by kernel_rfl) (by kernel_rfl) (by kernel_rfl) (fun _ _ _ h => h) (Or.inl ⟨by rfl, ?_⟩) hS0 ?_
  · intro w' hSw
    go_simp
  try simp only [Act.put, List.setIfInBounds_toArray, List.set_cons_zero, List.set_cons_succ]
  refine wpAnyH_take (i := 1) (oi := { dst := some 9, op := .move (.tmp 1), type := _, pos := _, after := _, guard := _ }) (v := .int .i64 (k : Int)) rfl (by kernel_rfl) (by kernel_rfl) (by kernel_rfl) (fun _ _ _ h => h) (Or.inl ⟨by rfl, ?_⟩) hS0 ?_
  · intro w' hSw
    go_simp
  try simp only [Act.put, List.setIfInBounds_toArray, List.set_cons_zero, List.set_cons_succ]
  refine wpAnyH_take (i := 2) (oi := { dst := some 10, op := .move (.tmp 0), type := _, pos := _, after := _, guard := _ }) (v := .pointer (some ⟨b, 0, none⟩)) rfl (by kernel_rfl) (by kernel_rfl) (by kernel_rfl) (fun _ _ _ h => h) (Or.inl ⟨by rfl, ?_⟩) hS0 ?_
  · intro w' hSw
    go_simp
  try simp only [Act.put, List.setIfInBounds_toArray, List.set_cons_zero, List.set_cons_succ]
  refine wpAnyH_take (i := 3) (oi := { dst := some 11, op := .move (.tmp 1), type := _, pos := _, after := _, guard := _ }) (v := .int .i64 (k : Int)) rfl (by kernel_rfl) (by kernel_rfl) (by kernel_rfl) (fun _ _ _ h => h) (Or.inl ⟨by rfl, ?_⟩) hS0 ?_
  · intro w' hSw
    go_simp
  try simp only [Act.put, List.setIfInBounds_toArray, List.set_cons_zero, List.set_cons_succ]
  refine wpAnyH_take (i := 4) (oi := { dst := some 12, op := .nilCheck (.tmp 10), type := _, pos := _, after := _, guard := _ }) (v := .pointer (some ⟨b, 0, none⟩)) rfl (by kernel_rfl) (by kernel_rfl) (by kernel_rfl) (fun _ _ _ h => h) (Or.inl ⟨by rfl, ?_⟩) hS0 ?_
  · intro w' hSw
    go_simp
  try simp only [Act.put, List.setIfInBounds_toArray, List.set_cons_zero, List.set_cons_succ]
  refine wpAnyH_take (i := 5) (oi := { dst := some 13, op := .fieldAddr 121 (.tmp 12) 0, type := _, pos := _, after := _, guard := _ }) (v := .pointer (some ⟨b, 0, none⟩)) rfl (by kernel_rfl) (by kernel_rfl) (by kernel_rfl) (fun _ _ _ h => h) (Or.inl ⟨by rfl, ?_⟩) hS0 ?_
  · intro w' hSw
    go_simp
  try simp only [Act.put, List.setIfInBounds_toArray, List.set_cons_zero, List.set_cons_succ]
  refine wpAnyH_take (i := 6) (oi := { dst := some 14, op := .indexAddr 117 (.tmp 13) (.tmp 11), type := _, pos := _, after := _, guard := _ }) (v := .pointer (some ⟨b, k, none⟩)) rfl (by kernel_rfl) (by kernel_rfl) (by kernel_rfl) (fun _ _ _ h => h) (Or.inl ⟨by rfl, ?_⟩) hS0 ?_
  · intro w' hSw
    go_simp; (try (intro h8; omega))
  try simp only [Act.put, List.setIfInBounds_toArray, List.set_cons_zero, List.set_cons_succ]
  refine wpAnyH_take (i := 8) (oi := { dst := some 16, op := .move (.tmp 2), type := _, pos := _, after := _, guard := _ }) (v := .string u) rfl (by kernel_rfl) (by kernel_rfl) (by kernel_rfl) (fun _ _ _ h => h) (Or.inl ⟨by rfl, ?_⟩) hS0 ?_
  · intro w' hSw
    go_simp
  try simp only [Act.put, List.setIfInBounds_toArray, List.set_cons_zero, List.set_cons_succ]
  refine wpAnyH_take (i := 9) (oi := { dst := some 17, op := .build 157 #[], type := _, pos := _, after := _, guard := _ }) (v := .agg #[]) rfl (by kernel_rfl) (by kernel_rfl) (by kernel_rfl) (fun _ _ _ h => h) (Or.inl ⟨by rfl, ?_⟩) hS0 ?_
  · intro w' hSw
    go_simp
  try simp only [Act.put, List.setIfInBounds_toArray, List.set_cons_zero, List.set_cons_succ]
  refine wpAnyH_take (i := 11) (oi := { dst := some 19, op := .nilCheck (.tmp 8), type := _, pos := _, after := _, guard := _ }) (v := .pointer (some ⟨b, 0, none⟩)) rfl (by kernel_rfl) (by kernel_rfl) (by kernel_rfl) (fun _ _ _ h => h) (Or.inl ⟨by rfl, ?_⟩) hS0 ?_
  · intro w' hSw
    go_simp
  try simp only [Act.put, List.setIfInBounds_toArray, List.set_cons_zero, List.set_cons_succ]
  refine wpAnyH_take (i := 12) (oi := { dst := some 20, op := .fieldAddr 121 (.tmp 19) 0, type := _, pos := _, after := _, guard := _ }) (v := .pointer (some ⟨b, 0, none⟩)) rfl (by kernel_rfl) (by kernel_rfl) (by kernel_rfl) (fun _ _ _ h => h) (Or.inl ⟨by rfl, ?_⟩) hS0 ?_
  · intro w' hSw
    go_simp
  try simp only [Act.put, List.setIfInBounds_toArray, List.set_cons_zero, List.set_cons_succ]
  refine wpAnyH_ready (rs := [7]) (by kernel_rfl) (by simp) ?_
  refine AllReadyH.cons (o := { dst := some 15, op := .load 116 (.tmp 14), type := _, pos := _, after := _, guard := _ }) rfl (fun K hK => ?_) AllReadyH.nil
  go_simp
  refine hK.out _ _ trivial (fun hS1 => ?_)
  clear hK K
  try simp only [Act.put, List.setIfInBounds_toArray, List.set_cons_zero, List.set_cons_succ]
  refine wpAnyH_ready (rs := [10]) (by kernel_rfl) (by simp) ?_
  refine AllReadyH.cons (o := { dst := some 18, op := .call { callee := .value (.func 103), args := #[.tmp 15, .tmp 16, .tmp 17], argTypes := _ }, type := _, pos := _, after := _, guard := _ }) rfl (fun K hK => ?_) AllReadyH.nil
  go_simp
  refine Calls.mono (OmapU.withM u 0 (HF1.out.tree k hk) (Nat.le_refl _) (HF1.out.rise k hk) hl) ?_
  rintro e w1 ⟨p1, rfl, t1, b1⟩
  have T1 := Lib.hid t1
  have B1 := Lib.hid b1
  clear t1 b1
  go_wp2_with fail
  refine hK.out _ _ trivial (fun hS2 => ?_)
  clear hK K
  try simp only [Act.put, List.setIfInBounds_toArray, List.set_cons_zero, List.set_cons_succ]
  refine wpAnyH_take (i := 13) (oi := { dst := some 21, op := .indexAddr 117 (.tmp 20) (.tmp 9), type := _, pos := _, after := _, guard := _ }) (v := .pointer (some ⟨b, k, none⟩)) rfl (by kernel_rfl) (by kernel_rfl) (by kernel_rfl) (fun _ _ _ h => h) (Or.inl ⟨by rfl, ?_⟩) hS2 ?_
  · intro w' hSw
    go_simp; (try (intro h8; omega))
  try simp only [Act.put, List.setIfInBounds_toArray, List.set_cons_zero, List.set_cons_succ]
  have I1 := (HF1.out.below B1.out).box
  have c1 : w1.cell? ⟨b, k, none⟩ = some (.pointer (p k)) := (I1.cell k).trans (by simpa using cellsF_wat p g hk)
  have f1 := I1.frozen k
  have l1 := I1.lt
  clear I1
  refine wpAnyH_ready (rs := [14]) (by kernel_rfl) (by simp) ?_
  refine AllReadyH.cons (o := { dst := none, op := .store 116 (.tmp 21) (.tmp 18), type := _, pos := _, after := _, guard := _ }) rfl (fun K hK => ?_) AllReadyH.nil
  go_simp
  refine hK.out _ _ trivial (fun hS3 => ?_)
  clear hK K
  try simp only [Act.put, List.setIfInBounds_toArray, List.set_cons_zero, List.set_cons_succ]
  refine wpAnyH_done (by kernel_rfl) ?_ _
  go_wp2_with fail
  go_end0
  exact ⟨rfl, ⟨_, _, _, HF1.out.watched hk B1.out T1.out HZ.out⟩, Went.trans (Went.of_below HBD.out) ⟨(Law.Touch.of_below B1.out S).trans (Law.Touch.store w1 ⟨b, k, none⟩ _ HF1.out.inn) (fun n hn => .inl hn), fun n hn => .inl hn, fun t ht _ _ => (Keeps.of_below B1.out).trans (Keeps.store (HF1.out.below B1.out).box ht (i := k) _)⟩⟩
end Feed
end Go.Proofs.YtohdlnefgieenaaGreat
