/-
  Sessions in memory: an own row of them, a call that makes one; Late (layer 1).
-/
import Derived.Test.YtdkjcheannehhaaGreatJ6
import Derived.Test.YtdkjcheannehhaaGreatJ2
import Derived.BigRegion
import Derived.Lib.Hide
import Derived.Shelf.Abstract
import Derived.RangeFuncNested
import Derived.RangeFuncLeaves
import Derived.RangeFuncBound
import Derived.RangeFuncCalls
import Derived.RangeFuncBox
import Derived.OwnWalkIn
import Derived.TacticsInMore
import Derived.LoopNIn
import Derived.LoopIn
namespace Go.Law
open Go.RowKit
theorem Is.row {w : World} {g base : Nat} {e : TypeId} {zs : List Sn} (h : Is w g e (flatS zs).toArray) (hb : base ≤ g) (hl : zs.length ≤ maxLen) : w.ownsRow base e 4 (.slice (some ⟨g, 0, none⟩) zs.length zs.length) zs.length (flatS zs) :=
  ⟨flatS_length zs, .inr ⟨g, zs.length, _, rfl, hb, h, Nat.le_refl _, hl, by simp [flatS_length], by rw [List.take_of_length_le (by simp [flatS_length])]⟩⟩
theorem Is.seqS {w : World} {g : Nat} {e : TypeId} {cs : List Value} (h : Is w g e cs.toArray) : Seq w g (g + 1) (some ⟨g, 0, none⟩) cs := fun _ =>
  ⟨g, 0, rfl, Nat.le_refl _, Nat.lt_succ_self _, fun i u hu => by rw [Nat.zero_add, h.cell]; simpa using hu⟩
theorem row_of {w : World} {g base G : Nat} {e : TypeId} {cur : List Value} {zs : List Sn} (h : Is w g e cur.toArray) (hb : base ≤ g) (hle : zs.length ≤ G) (hG : G ≤ maxLen) (hs : cur.length = G * 4) (ht : cur.take (zs.length * 4) = flatS zs) :
    w.ownsRow base e 4 (.slice (some ⟨g, 0, none⟩) zs.length G) zs.length (flatS zs) :=
  ⟨flatS_length zs, .inr ⟨g, G, _, rfl, hb, h, hle, hG, by simpa using hs, ht⟩⟩
theorem own_base {w : World} {base base' : Nat} {e : TypeId} {size n : Nat} {v : Value} {xs : List Value} (h : w.ownsRow base' e size v n xs) (hb : base ≤ base') : w.ownsRow base e size v n xs := by
  refine ⟨h.1, ?_⟩
  rcases h.2 with hn | ⟨g, cap, cur, rfl, hg, rest⟩
  · exact .inl hn
  · exact .inr ⟨g, cap, cur, rfl, by omega, rest⟩
theorem live_snoc (now : Int) (xs : List Sn) (q : Sn) : live now (xs ++ [q]) = if now < q.2.2.2 then live now xs ++ [q] else live now xs := by
  unfold live
  rw [List.filter_append]
  by_cases h : now < q.2.2.2
  · rw [if_pos h, List.filter_cons_of_pos (by simpa using h)]; rfl
  · rw [if_neg h, List.filter_cons_of_neg (by simpa using h)]; simp
theorem own_empty (w : World) {base : Nat} (e : TypeId) (hb : base ≤ w.heap.size) : (w.alloc (.cells #[] e)).ownsRow base e 4 (.slice (some ⟨w.heap.size, 0, none⟩) 0 0) 0 [] :=
  ⟨rfl, .inr ⟨w.heap.size, 0, #[], rfl, hb, heap_alloc_new w _, Nat.le_refl _, Nat.zero_le _, rfl, rfl⟩⟩
end Go.Law
namespace Go.Proofs.YtdkjcheannehhaaGreat
open Go.RowKit
namespace Sess
open Go.Law
theorem elem : ∃ i, Law.Elem Tryz.prog 110 143 i (.agg #[.int .i64 0, .int .i64 0, .int .i64 0, .int .u64 0]) 4 32 := Law.Elem.of Tryz.underlying110 (by kernel_rfl) rfl (by decide)
/-- the slice v is an own row, from base on, of these sessions -/
abbrev Row (w : World) (base : Nat) (v : Value) (zs : List Sn) : Prop := w.ownsRow base 143 4 v zs.length (flatS zs)

/-- behind a call that makes a row of these sessions -/
def Listed (w : World) (base : Nat) (zs : List Sn) (e : Ending) (w' : World) : Prop := ∃ A c, e = .returned (.slice A zs.length c) ∧ Row w' base (.slice A zs.length c) zs ∧ Below base w w'

/-- behind a call that makes a row of these sessions, and an error's number -/
def Listed2 (w : World) (zs : List Sn) (err : Int) (e : Ending) (w' : World) : Prop := ∃ A c, e = .returned (.tuple #[.slice A zs.length c, .int .i64 err]) ∧ Row w' w.heap.size (.slice A zs.length c) zs ∧ Below w.heap.size w w'

set_option maxHeartbeats 400000 in
theorem late (a b : Int) (w : World) :
    Calls Tryz.prog 108 #[.int .u64 a, .int .u64 b] w fun e w' => e = .returned (.bool (decide (b ≤ a))) ∧ w = w' := by
  go_enter Tryz.func108, Tryz.ntmps108
  go_wp2
  go_ret
  exact ⟨rfl, rfl⟩
end Sess
end Go.Proofs.YtdkjcheannehhaaGreat
/-
  What the calls of layer 7 come to: Better, living, the function that living answers at the body of a range, Of, Next.
-/
namespace Go.Law
open Go.RowKit
/-- nothing below n₀ has turned, nor the cell of block g -/
def Stays (n₀ g : Nat) (A B : World) : Prop := Below n₀ A B ∧ B.cell? ⟨g, 0, none⟩ = A.cell? ⟨g, 0, none⟩
theorem Stays.refl (n₀ g : Nat) (A : World) : Stays n₀ g A A := ⟨Below.refl _ _, rfl⟩
theorem Stays.trans {n₀ g : Nat} {A B C : World} (h : Stays n₀ g A B) (k : Stays n₀ g B C) : Stays n₀ g A C := ⟨h.1.trans k.1, k.2.trans h.2⟩
theorem Stays.alloc {n₀ g : Nat} {A B : World} (h : Stays n₀ g A B) (hn : n₀ ≤ B.heap.size) (hg : g < B.heap.size) (o : Obj) : Stays n₀ g A (B.alloc o) := ⟨h.1.alloc hn o, (World.cell?_alloc_lt _ _ ⟨g, 0, none⟩ hg).trans h.2⟩
theorem Stays.store {n₀ g : Nat} {A B : World} (h : Stays n₀ g A B) {p : Addr} (hn : n₀ ≤ p.block) (hg : g ≠ p.block) (v : Value) : Stays n₀ g A (B.setCell p v) :=
  ⟨h.1.setCell hn v, (World.cell?_of_block (Below.heap_setCell B p v g hg)).trans h.2⟩
theorem stays_b {n₀ g : Nat} {w : World} (hn : n₀ ≤ w.heap.size) (hg : g < w.heap.size) (W : World) (l : Nat) (o o' : Obj) (h1 : w.heap.size ≤ l) (h2 : W.heap[l]? = some o) (h3 : o.isCells = false) (h4 : o.isWalk = false) : Stays n₀ g W (W.putObj l o') :=
  ⟨belowK_b hn W l o o' h1 h2 h3 h4, World.cell?_of_block (World.putObj_heap_other (by simp only; omega))⟩
theorem ownFrom_is {β : Type} {B g : Nat} {t : TypeId} (cs : β → Array Value) : OwnFrom B (fun s W => Is W g t (cs s)) := fun s W W' row hs hg hr => by
  refine (hg.block g hs.lt ?_).trans hs
  intro e
  obtain ⟨_, o, ho, hc⟩ := hr g e.symm
  rw [show W.heap[g]? = _ from hs] at ho
  cases ho
  cases hc
end Go.Law
namespace Go.Proofs.YtdkjcheannehhaaGreat
open Go.RowKit Go.Shelf
attribute [local go_sem] Oper.semAt_some
namespace Aggr
open Go.Law
/-- the cells of a session's block -/
abbrev C (q : Sn) : Obj := .cells #[.int .i64 q.1, .int .i64 q.2.1, .int .i64 q.2.2.1, .int .u64 q.2.2.2] 143
/-- a presence, of those who live -/
def PV (lv : List Sn) : Value := .agg #[.int .i64 (top lv).2.1, .int .i64 (top lv).2.2.1, .int .i64 (lv.length : Int)]

set_option maxHeartbeats 1000000 in
theorem late_in (F : Fence) (n : Nat) (hF : ∀ f, F.fn f) (hro : F.round = none) (a b : Int) (r : Bool) (hr : decide (b ≤ a) = r) (w : World) :
    CallsIn F n Tryz.prog 108 #[.int .u64 a, .int .u64 b] w fun e w' => e = .returned (.bool r) ∧ w = w' := by
  refine callsIn_of_wp Tryz.func108 rfl (hF _) ?_ hro
  simp only [Tryz.ntmps108, List.size_toArray, List.length_cons, List.length_nil, Nat.reduceAdd, Nat.reduceSub, Array.replicate_succ, Array.replicate_zero, List.push_toArray, List.append_toArray, List.nil_append, List.cons_append]
  gi_wp2
  go_ret
  exact ⟨rfl, rfl⟩

set_option maxHeartbeats 1000000 in
theorem better_in (F : Fence) (n : Nat) (hF : ∀ f, F.fn f) (hro : F.round = none) (a b : Sn) (r : Bool) (hr : better a b = r) (w : World) :
    CallsIn F n Tryz.prog 100 #[V a, V b] w fun e w' => e = .returned (.bool r) ∧ (w.alloc (C a)).alloc (C b) = w' := by
  obtain ⟨a0, a1, a2, a3⟩ := a
  obtain ⟨b0, b1, b2, b3⟩ := b
  unfold V
  simp only [better] at hr
  refine callsIn_of_wp Tryz.func100 rfl (hF _) ?_ hro
  simp only [Tryz.ntmps100, List.size_toArray, List.length_cons, List.length_nil, Nat.reduceAdd, Nat.reduceSub, Array.replicate_succ, Array.replicate_zero, List.push_toArray, List.append_toArray, List.nil_append, List.cons_append]
  by_cases h : a2 = b2
  · have d : (a2 == b2) = true := by simpa using h
    subst h
    gi_wp2
    go_ret
    exact ⟨by rw [← hr]; simp, rfl⟩
  · have d : (a2 == b2) = false := by simpa using h
    gi_wp2
    go_ret
    exact ⟨by rw [← hr]; simp [h], rfl⟩
theorem better_ (a b : Sn) (r : Bool) (hr : better a b = r) (w : World) :
    Calls Tryz.prog 100 #[V a, V b] w fun e w' => e = .returned (.bool r) ∧ (w.alloc (C a)).alloc (C b) = w' :=
  (callsIn_wide (n := 1)).1 (better_in Fence.wide 1 (fun _ => trivial) rfl a b r hr w)

set_option maxHeartbeats 400000 in
theorem living_in (F : Fence) (n : Nat) (hF : ∀ f, F.fn f) (hro : F.round = none) (w : World) (A : Option Addr) (m c : Nat) (now : Int) :
    CallsIn F n Tryz.prog 99 #[.slice A m c, .int .u64 now] w fun e w' => e = .returned (.func (.func 118) #[] #[.pointer (some ⟨w.heap.size, 0, none⟩), .pointer (some ⟨w.heap.size + 1, 0, none⟩)]) ∧ (w.alloc (.cells #[.slice A m c] 110)).alloc (.cells #[.int .u64 now] 22) = w' := by
  refine callsIn_of_wp Tryz.func99 rfl (hF _) ?_ hro
  simp only [Tryz.ntmps99, List.size_toArray, List.length_cons, List.length_nil, Nat.reduceAdd, Nat.reduceSub, Array.replicate_succ, Array.replicate_zero, List.push_toArray, List.append_toArray, List.nil_append, List.cons_append]
  gi_wp2
  go_ret
  exact ⟨rfl, rfl⟩
theorem living (w : World) (A : Option Addr) (m c : Nat) (now : Int) :
    Calls Tryz.prog 99 #[.slice A m c, .int .u64 now] w fun e w' => e = .returned (.func (.func 118) #[] #[.pointer (some ⟨w.heap.size, 0, none⟩), .pointer (some ⟨w.heap.size + 1, 0, none⟩)]) ∧ (w.alloc (.cells #[.slice A m c] 110)).alloc (.cells #[.int .u64 now] 22) = w' :=
  (callsIn_wide (n := 1)).1 (living_in Fence.wide 1 (fun _ => trivial) rfl w A m c now)

set_option maxRecDepth 100000 in
set_option maxHeartbeats 2000000 in
theorem living1_in (F : Fence) (n : Nat) (hF : ∀ f, F.fn f) (hro : F.round = none) (hn : 1 ≤ n) (l Bs Bn n₀ c : Nat) (A : Option Addr) (now : Int) (zs : List Sn) (hl : zs.length ≤ maxLen) (J Jx : List Sn → World → Prop)
    (hA : ∀ pre W o, J pre W → J pre (World.alloc W o))
    (hY : ∀ pre x W, J pre W → pre.length < zs.length → YieldAt F (n - 1) Tryz.prog l #[V x] W fun e W' =>
      (e = .returned (.bool true) ∧ J (pre ++ [x]) W' ∧ Stays n₀ Bn W W') ∨ (e = .returned (.bool false) ∧ Jx (pre ++ [x]) W'))
    (W : World) (hBs : W.cell? ⟨Bs, 0, none⟩ = some (.slice A zs.length c)) (hBn : W.cell? ⟨Bn, 0, none⟩ = some (.int .u64 now)) (hn₀ : n₀ ≤ W.heap.size) (hs : Seq W 0 n₀ A (flatS zs)) (h0 : J [] W) :
    CallsIn F n Tryz.prog 118 #[.func (.yield l) #[] #[], .pointer (some ⟨Bs, 0, none⟩), .pointer (some ⟨Bn, 0, none⟩)] W fun e W' => (∃ v, e = .returned v) ∧
      ((∃ ys, ys = live now zs ∧ J ys W') ∨ (∃ pre, pre <+: live now zs ∧ Jx pre W')) := by
  have HS := Lib.hid hs
  have HN := Lib.hid hBn
  have lBn : Bn < W.heap.size := World.block_lt_of_cell? W _ hBn
  unfold maxLen at hl
  clear hs hBn
  refine callsIn_of_wp Tryz.func118 rfl (hF _) ?_ hro
  simp only [Tryz.ntmps118, List.size_toArray, List.length_cons, List.length_nil, Nat.reduceAdd, Nat.reduceSub, Array.replicate_succ, Array.replicate_zero, List.push_toArray, List.append_toArray, List.nil_append, List.cons_append]
  gi_wp2
  gi_loopw [8] (fun i wr => ∃ k : Nat, k ≤ zs.length ∧ i = .int .i64 k ∧ J (live now (zs.take k)) wr ∧ Stays n₀ Bn W wr) (fun i _ => zs.length - (intOf i).toNat)
  case atStart => exact ⟨0, Nat.zero_le _, rfl, by simpa [live] using h0, Stays.refl _ _ _⟩
  case round =>
    obtain ⟨k, hk, rfl, hJs, hnx⟩ := hrel
    have HX := Lib.hid hnx
    have HJ := Lib.hid hJs
    have sb := hnx.1.size
    have cn : wr.cell? ⟨Bn, 0, none⟩ = some (.int .u64 now) := hnx.2.trans HN.out
    have ln : Bn < wr.heap.size := by omega
    have hpl := live_length now (zs.take k)
    have hpl2 : (live now (zs.take k)).length ≤ k := by rw [List.length_take] at hpl; omega
    clear hnx hJs hpl
    by_cases hlt : k < zs.length
    · have ht := Lib.hid (List.take_succ_eq_append_getElem hlt)
      have HT2 : Hid (live now (zs.take (k + 1)) = if now < zs[k].2.2.2 then live now (zs.take k) ++ [zs[k]] else live now (zs.take k)) := by show _ = _; rw [ht.out, live_snoc]
      have HP : Hid (live now (zs.take (k + 1)) <+: live now zs) := by
        show _ <+: _
        exact (List.take_prefix (k + 1) zs).filter _
      obtain ⟨b, off, rfl, _, hb, q0, q1, q2, q3⟩ := (HS.out.below HX.out.1).ses hlt
      have lb : b < wr.heap.size := by omega
      clear ht
      generalize live now (zs.take k) = os at *
      generalize zs[k] = q at *
      obtain ⟨x0, x1, x2, x3⟩ := q
      simp only at q0 q1 q2 q3 HT2
      have HX2 := Lib.hid (HX.out.alloc (by omega) ln (C (x0, x1, x2, x3)))
      have HJ2 := Lib.hid (hA os wr (C (x0, x1, x2, x3)) HJ.out)
      by_cases hk3 : now < x3
      · have d1 : decide (x3 ≤ now) = false := by simp; omega
        obtain ⟨fn, tmps, assign, body, hy, hR⟩ : YieldAt F (n - 1) Tryz.prog l #[.agg #[.int .i64 x0, .int .i64 x1, .int .i64 x2, .int .u64 x3]] (wr.alloc (.cells #[.int .i64 x0, .int .i64 x1, .int .i64 x2, .int .u64 x3] 143)) _ := hY os (x0, x1, x2, x3) _ HJ2.out (by omega)
        gi_wp2_with (gi_at_call 108; refine (late_in F _ hF hro _ _ _ d1 _).mono ?_; rintro e w' ⟨rfl, rfl⟩)
        refine hR.mono ?_
        rintro e W3 (⟨rfl, hJ3, hk4⟩ | ⟨rfl, hJx3⟩)
        · gi_wp2
          go_roundw
          case rel => exact ⟨k + 1, by omega, by go_num, by rw [HT2.out, if_pos hk3]; exact hJ3, HX2.out.trans hk4⟩
          case measure => simp [intOf]; omega
        · gi_wp2
          refine bodyPost_ret (results_none rfl _ _ _) rfl ?_
          exact ⟨⟨_, rfl⟩, .inr ⟨_, by have h := HP.out; rw [HT2.out, if_pos hk3] at h; exact h, hJx3⟩⟩
      · have d1 : decide (x3 ≤ now) = true := by simp; omega
        gi_wp2_with (gi_at_call 108; refine (late_in F _ hF hro _ _ _ d1 _).mono ?_; rintro e w' ⟨rfl, rfl⟩)
        go_roundw
        case rel => exact ⟨k + 1, by omega, by go_num, by rw [HT2.out, if_neg (by omega)]; exact HJ2.out, HX2.out⟩
        case measure => simp [intOf]; omega
    · rw [List.take_of_length_le (by omega)] at HJ
      gi_wp2
      go_end0
      exact ⟨⟨_, rfl⟩, .inl ⟨_, rfl, HJ.out⟩⟩

theorem living_stops (F : Fence) (n : Nat) (hF : ∀ f, F.fn f) (hro : F.round = none) (hn : 1 ≤ n) (Bs Bn n₀ c : Nat) (A : Option Addr) (now : Int) (zs : List Sn) (hl : zs.length ≤ maxLen) (w : World) (hn₀ : n₀ ≤ w.heap.size)
    (hBs : w.cell? ⟨Bs, 0, none⟩ = some (.slice A zs.length c)) (hBn : w.cell? ⟨Bn, 0, none⟩ = some (.int .u64 now)) (hs : Seq w 0 n₀ A (flatS zs)) :
    SeqStopsK F n Tryz.prog 118 #[.pointer (some ⟨Bs, 0, none⟩), .pointer (some ⟨Bn, 0, none⟩)] (fun x : Sn => #[V x]) (Stays n₀ Bn) (fun ys => ys = live now zs) (fun pre => pre <+: live now zs) zs.length w := fun l J Jx W hW hJ _ hY h0 =>
  living1_in F n hF hro hn l Bs Bn n₀ c A now zs hl J Jx (fun pre W o h => hJ pre W _ none h (World.grownBy_alloc W o none) (fun r e => by cases e)) hY W
    ((hW.cell (p := ⟨Bs, 0, none⟩) (World.block_lt_of_cell? w _ hBs)).trans hBs) ((hW.cell (p := ⟨Bn, 0, none⟩) (World.block_lt_of_cell? w _ hBn)).trans hBn) (Nat.le_trans hn₀ hW.size) (hs.below (hW.mono hn₀)) h0
end Aggr
end Go.Proofs.YtdkjcheannehhaaGreat
