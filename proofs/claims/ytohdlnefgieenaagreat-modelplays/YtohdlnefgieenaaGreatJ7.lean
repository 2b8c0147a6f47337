/-
  Sessions in memory: an own row of them, a call that makes one; Late (layer 1).
-/
import Derived.Test.YtohdlnefgieenaaGreatJ4
import Derived.Test.YtohdlnefgieenaaGreatJ1
import Derived.BigRegion
import Derived.Lib.Hide
import Derived.Shelf.Abstract
import Derived.Test.YtohdlnefgieenaaGreatJ2
import Derived.RangeFuncNested
import Derived.RangeFuncLeaves
import Derived.RangeFuncBound
import Derived.RangeFuncCalls
import Derived.RangeFuncBox
import Derived.OwnWalkIn
import Derived.TacticsInMore
import Derived.LoopNIn
import Derived.LoopIn
namespace Go.Law
open Go.RowKit
theorem Is.row {w : World} {g base : Nat} {e : TypeId} {zs : List Sn} (h : Is w g e (flatS zs).toArray) (hb : base ≤ g) (hl : zs.length ≤ maxLen) : w.ownsRow base e 4 (.slice (some ⟨g, 0, none⟩) zs.length zs.length) zs.length (flatS zs) :=
 ⟨flatS_length zs, .inr ⟨g, zs.length, _, rfl, hb, h, Nat.le_refl _, hl, by simp [flatS_length], by rw [List.take_of_length_le (by simp [flatS_length])]⟩⟩
theorem Is.seqS {w : World} {g : Nat} {e : TypeId} {cs : List Value} (h : Is w g e cs.toArray) : Seq w g (g + 1) (some ⟨g, 0, none⟩) cs := fun _ =>
 ⟨g, 0, rfl, Nat.le_refl _, Nat.lt_succ_self _, fun i u hu => by rw [Nat.zero_add, h.cell]; simpa using hu⟩
theorem row_of {w : World} {g base G : Nat} {e : TypeId} {cur : List Value} {zs : List Sn} (h : Is w g e cur.toArray) (hb : base ≤ g) (hle : zs.length ≤ G) (hG : G ≤ maxLen) (hs : cur.length = G * 4) (ht : cur.take (zs.length * 4) = flatS zs) :
  w.ownsRow base e 4 (.slice (some ⟨g, 0, none⟩) zs.length G) zs.length (flatS zs) :=
 ⟨flatS_length zs, .inr ⟨g, G, _, rfl, hb, h, hle, hG, by simpa using hs, ht⟩⟩
theorem own_base {w : World} {base base' : Nat} {e : TypeId} {size n : Nat} {v : Value} {xs : List Value} (h : w.ownsRow base' e size v n xs) (hb : base ≤ base') : w.ownsRow base e size v n xs := by
 refine ⟨h.1, ?_⟩
 rcases h.2 with hn | ⟨g, cap, cur, rfl, hg, rest⟩
 ·exact .inl hn
 ·exact .inr ⟨g, cap, cur, rfl, by omega, rest⟩
theorem live_snoc (now : Int) (xs : List Sn) (q : Sn) : live now (xs ++ [q]) = if now < q.2.2.2 then live now xs ++ [q] else live now xs := by
 unfold live
 rw [List.filter_append]
 by_cases h : now < q.2.2.2
 ·rw [if_pos h, List.filter_cons_of_pos (by simpa using h)]; rfl
 ·rw [if_neg h, List.filter_cons_of_neg (by simpa using h)]; simp
end Go.Law
namespace Go.Proofs.YtohdlnefgieenaaGreat
open Go.RowKit
namespace Sess
open Go.Law
theorem elem : ∃ i, Law.Elem Tryz.prog 105 138 i (.agg #[.int .i64 0, .int .i64 0, .int .i64 0, .int .u64 0]) 4 32 := Law.Elem.of Tryz.underlying105 (by kernel_rfl) rfl (by decide)
abbrev Row (w : World) (base : Nat) (v : Value) (zs : List Sn) : Prop := w.ownsRow base 138 4 v zs.length (flatS zs)

def Listed (w : World) (base : Nat) (zs : List Sn) (e : Ending) (w' : World) : Prop := ∃ A c, e = .returned (.slice A zs.length c) ∧ Row w' base (.slice A zs.length c) zs ∧ Below base w w'

def Listed2 (w : World) (zs : List Sn) (err : Int) (e : Ending) (w' : World) : Prop := ∃ A c, e = .returned (.tuple #[.slice A zs.length c, .int .i64 err]) ∧ Row w' w.heap.size (.slice A zs.length c) zs ∧ Below w.heap.size w w'

set_option maxHeartbeats 400000 in
theorem late (a b : Int) (w : World) :
  Calls Tryz.prog 107 #[.int .u64 a, .int .u64 b] w fun e w' => e = .returned (.bool (decide (b ≤ a))) ∧ w = w' := by
 go_enter Tryz.func107, Tryz.ntmps107
 go_wp2
 go_ret
 exact ⟨rfl, rfl⟩
end Sess
end Go.Proofs.YtohdlnefgieenaaGreat
namespace Go.Law
open Go.RowKit
def Stays (n₀ g : Nat) (A B : World) : Prop := Below n₀ A B ∧ B.cell? ⟨g, 0, none⟩ = A.cell? ⟨g, 0, none⟩
theorem Stays.refl (n₀ g : Nat) (A : World) : Stays n₀ g A A := ⟨Below.refl _ _, rfl⟩
theorem Stays.trans {n₀ g : Nat} {A B C : World} (h : Stays n₀ g A B) (k : Stays n₀ g B C) : Stays n₀ g A C := ⟨h.1.trans k.1, k.2.trans h.2⟩
theorem Stays.alloc {n₀ g : Nat} {A B : World} (h : Stays n₀ g A B) (hn : n₀ ≤ B.heap.size) (hg : g < B.heap.size) (o : Obj) : Stays n₀ g A (B.alloc o) := ⟨h.1.alloc hn o, (World.cell?_alloc_lt _ _ ⟨g, 0, none⟩ hg).trans h.2⟩
theorem Stays.store {n₀ g : Nat} {A B : World} (h : Stays n₀ g A B) {p : Addr} (hn : n₀ ≤ p.block) (hg : g ≠ p.block) (v : Value) : Stays n₀ g A (B.setCell p v) :=
 ⟨h.1.setCell hn v, (World.cell?_of_block (Below.heap_setCell B p v g hg)).trans h.2⟩
theorem stays_b {n₀ g : Nat} {w : World} (hn : n₀ ≤ w.heap.size) (hg : g < w.heap.size) (W : World) (l : Nat) (o o' : Obj) (h1 : w.heap.size ≤ l) (h2 : W.heap[l]? = some o) (h3 : o.isCells = false) (h4 : o.isWalk = false) : Stays n₀ g W (W.putObj l o') :=
 ⟨belowK_b hn W l o o' h1 h2 h3 h4, World.cell?_of_block (World.putObj_heap_other (by simp only; omega))⟩
theorem ownFrom_is {β : Type} {B g : Nat} {t : TypeId} (cs : β → Array Value) : OwnFrom B (fun s W => Is W g t (cs s)) := fun s W W' row hs hg hr => by
 refine (hg.block g hs.lt ?_).trans hs
 intro e
 obtain ⟨_, o, ho, hc⟩ := hr g e.symm
 rw [show W.heap[g]? = _ from hs] at ho
 cases ho
 cases hc
end Go.Law
namespace Go.Proofs.YtohdlnefgieenaaGreat
open Go.RowKit Go.Shelf
attribute [local go_sem] Oper.semAt_some
namespace Aggr
open Go.Law
abbrev C (q : Sn) : Obj := .cells #[.int .i64 q.1, .int .i64 q.2.1, .int .i64 q.2.2.1, .int .u64 q.2.2.2] 138
def PV (lv : List Sn) : Value := .agg #[.int .i64 (top lv).2.1, .int .i64 (top lv).2.2.1, .int .i64 (lv.length : Int)]

set_option maxHeartbeats 1000000 in
theorem late_in (F : Fence) (n : Nat) (hF : ∀ f, F.fn f) (hro : F.round = none) (a b : Int) (r : Bool) (hr : decide (b ≤ a) = r) (w : World) :
  CallsIn F n Tryz.prog 107 #[.int .u64 a, .int .u64 b] w fun e w' => e = .returned (.bool r) ∧ w = w' := by
 refine callsIn_of_wp Tryz.func107 rfl (hF _) ?_ hro
 simp only [Tryz.ntmps107, List.size_toArray, List.length_cons, List.length_nil, Nat.reduceAdd, Nat.reduceSub, Array.replicate_succ, Array.replicate_zero, List.push_toArray, List.append_toArray, List.nil_append, List.cons_append]
 gi_wp2
 go_ret
 exact ⟨rfl, rfl⟩

set_option maxHeartbeats 1000000 in
theorem better_in (F : Fence) (n : Nat) (hF : ∀ f, F.fn f) (hro : F.round = none) (a b : Sn) (r : Bool) (hr : better a b = r) (w : World) :
  CallsIn F n Tryz.prog 89 #[V a, V b] w fun e w' => e = .returned (.bool r) ∧ (w.alloc (C a)).alloc (C b) = w' := by
 obtain ⟨a0, a1, a2, a3⟩ := a
 obtain ⟨b0, b1, b2, b3⟩ := b
 unfold V
 simp only [better] at hr
 refine callsIn_of_wp Tryz.func89 rfl (hF _) ?_ hro
 simp only [Tryz.ntmps89, List.size_toArray, List.length_cons, List.length_nil, Nat.reduceAdd, Nat.reduceSub, Array.replicate_succ, Array.replicate_zero, List.push_toArray, List.append_toArray, List.nil_append, List.cons_append]
 by_cases h : a2 = b2
 ·have d : (a2 == b2) = true := by simpa using h
  subst h
  gi_wp2
  go_ret
  exact ⟨by rw [← hr]; simp, rfl⟩
 ·have d : (a2 == b2) = false := by simpa using h
  gi_wp2
  go_ret
  exact ⟨by rw [← hr]; simp [h], rfl⟩
set_option maxHeartbeats 400000 in
theorem living_in (F : Fence) (n : Nat) (hF : ∀ f, F.fn f) (hro : F.round = none) (w : World) (A : Option Addr) (m c : Nat) (now : Int) :
  CallsIn F n Tryz.prog 88 #[.slice A m c, .int .u64 now] w fun e w' => e = .returned (.func (.func 109) #[] #[.pointer (some ⟨w.heap.size, 0, none⟩), .pointer (some ⟨w.heap.size + 1, 0, none⟩)]) ∧ (w.alloc (.cells #[.slice A m c] 105)).alloc (.cells #[.int .u64 now] 22) = w' := by
 refine callsIn_of_wp Tryz.func88 rfl (hF _) ?_ hro
 simp only [Tryz.ntmps88, List.size_toArray, List.length_cons, List.length_nil, Nat.reduceAdd, Nat.reduceSub, Array.replicate_succ, Array.replicate_zero, List.push_toArray, List.append_toArray, List.nil_append, List.cons_append]
 gi_wp2
 go_ret
 exact ⟨rfl, rfl⟩
set_option maxRecDepth 100000 in
set_option maxHeartbeats 2000000 in
theorem living1_in (F : Fence) (n : Nat) (hF : ∀ f, F.fn f) (hro : F.round = none) (hn : 1 ≤ n) (l Bs Bn n₀ c : Nat) (A : Option Addr) (now : Int) (zs : List Sn) (hl : zs.length ≤ maxLen) (J Jx : List Sn → World → Prop)
  (hA : ∀ pre W o, J pre W → J pre (World.alloc W o))
  (hY : ∀ pre x W, J pre W → pre.length < zs.length → YieldAt F (n - 1) Tryz.prog l #[V x] W fun e W' =>
   (e = .returned (.bool true) ∧ J (pre ++ [x]) W' ∧ Stays n₀ Bn W W') ∨ (e = .returned (.bool false) ∧ Jx (pre ++ [x]) W'))
  (W : World) (hBs : W.cell? ⟨Bs, 0, none⟩ = some (.slice A zs.length c)) (hBn : W.cell? ⟨Bn, 0, none⟩ = some (.int .u64 now)) (hn₀ : n₀ ≤ W.heap.size) (hs : Seq W 0 n₀ A (flatS zs)) (h0 : J [] W) :
  CallsIn F n Tryz.prog 109 #[.func (.yield l) #[] #[], .pointer (some ⟨Bs, 0, none⟩), .pointer (some ⟨Bn, 0, none⟩)] W fun e W' => (∃ v, e = .returned v) ∧
   ((∃ ys, ys = live now zs ∧ J ys W') ∨ (∃ pre, pre <+: live now zs ∧ Jx pre W')) := by
 have HS := Lib.hid hs
 have HN := Lib.hid hBn
 have lBn : Bn < W.heap.size := World.block_lt_of_cell? W _ hBn
 unfold maxLen at hl
 clear hs hBn
 refine callsIn_of_wp Tryz.func109 rfl (hF _) ?_ hro
 simp only [Tryz.ntmps109, List.size_toArray, List.length_cons, List.length_nil, Nat.reduceAdd, Nat.reduceSub, Array.replicate_succ, Array.replicate_zero, List.push_toArray, List.append_toArray, List.nil_append, List.cons_append]
 gi_wp2
 gi_loopw [8] (fun i wr => ∃ k : Nat, k ≤ zs.length ∧ i = .int .i64 k ∧ J (live now (zs.take k)) wr ∧ Stays n₀ Bn W wr) (fun i _ => zs.length - (intOf i).toNat)
 case atStart => exact ⟨0, Nat.zero_le _, rfl, by simpa [live] using h0, Stays.refl _ _ _⟩
 case round =>
  obtain ⟨k, hk, rfl, hJs, hnx⟩ := hrel
  have HX := Lib.hid hnx
  have HJ := Lib.hid hJs
  have sb := hnx.1.size
  have cn : wr.cell? ⟨Bn, 0, none⟩ = some (.int .u64 now) := hnx.2.trans HN.out
  have ln : Bn < wr.heap.size := by omega
  have hpl := live_length now (zs.take k)
  have hpl2 : (live now (zs.take k)).length ≤ k := by rw [List.length_take] at hpl; omega
  clear hnx hJs hpl
  by_cases hlt : k < zs.length
  ·have ht := Lib.hid (List.take_succ_eq_append_getElem hlt)
   have HT2 : Hid (live now (zs.take (k + 1)) = if now < zs[k].2.2.2 then live now (zs.take k) ++ [zs[k]] else live now (zs.take k)) := by show _ = _; rw [ht.out, live_snoc]
   have HP : Hid (live now (zs.take (k + 1)) <+: live now zs) := by
    show _ <+: _
    exact (List.take_prefix (k + 1) zs).filter _
   obtain ⟨b, off, rfl, _, hb, q0, q1, q2, q3⟩ := (HS.out.below HX.out.1).ses hlt
   have lb : b < wr.heap.size := by omega
   clear ht
   generalize live now (zs.take k) = os at *
   generalize zs[k] = q at *
   obtain ⟨x0, x1, x2, x3⟩ := q
   simp only at q0 q1 q2 q3 HT2
   have HX2 := Lib.hid (HX.out.alloc (by omega) ln (C (x0, x1, x2, x3)))
   have HJ2 := Lib.hid (hA os wr (C (x0, x1, x2, x3)) HJ.out)
   by_cases hk3 : now < x3
   ·have d1 : decide (x3 ≤ now) = false := by simp; omega
    obtain ⟨fn, tmps, assign, body, hy, hR⟩ : YieldAt F (n - 1) Tryz.prog l #[.agg #[.int .i64 x0, .int .i64 x1, .int .i64 x2, .int .u64 x3]] (wr.alloc (.cells #[.int .i64 x0, .int .i64 x1, .int .i64 x2, .int .u64 x3] 138)) _ := hY os (x0, x1, x2, x3) _ HJ2.out (by omega)
    gi_wp2_with (gi_at_call 107; refine (late_in F _ hF hro _ _ _ d1 _).mono ?_; rintro e w' ⟨rfl, rfl⟩)
    refine hR.mono ?_
    rintro e W3 (⟨rfl, hJ3, hk4⟩ | ⟨rfl, hJx3⟩)
    ·gi_wp2
     go_roundw
     case rel => exact ⟨k + 1, by omega, by go_num, by rw [HT2.out, if_pos hk3]; exact hJ3, HX2.out.trans hk4⟩
     case measure => simp [intOf]; omega
    ·gi_wp2
     refine bodyPost_ret (results_none rfl _ _ _) rfl ?_
     exact ⟨⟨_, rfl⟩, .inr ⟨_, by have h := HP.out; rw [HT2.out, if_pos hk3] at h; exact h, hJx3⟩⟩
   ·have d1 : decide (x3 ≤ now) = true := by simp; omega
    gi_wp2_with (gi_at_call 107; refine (late_in F _ hF hro _ _ _ d1 _).mono ?_; rintro e w' ⟨rfl, rfl⟩)
    go_roundw
    case rel => exact ⟨k + 1, by omega, by go_num, by rw [HT2.out, if_neg (by omega)]; exact HJ2.out, HX2.out⟩
    case measure => simp [intOf]; omega
  ·rw [List.take_of_length_le (by omega)] at HJ
   gi_wp2
   go_end0
   exact ⟨⟨_, rfl⟩, .inl ⟨_, rfl, HJ.out⟩⟩

theorem living_stops (F : Fence) (n : Nat) (hF : ∀ f, F.fn f) (hro : F.round = none) (hn : 1 ≤ n) (Bs Bn n₀ c : Nat) (A : Option Addr) (now : Int) (zs : List Sn) (hl : zs.length ≤ maxLen) (w : World) (hn₀ : n₀ ≤ w.heap.size)
  (hBs : w.cell? ⟨Bs, 0, none⟩ = some (.slice A zs.length c)) (hBn : w.cell? ⟨Bn, 0, none⟩ = some (.int .u64 now)) (hs : Seq w 0 n₀ A (flatS zs)) :
  SeqStopsK F n Tryz.prog 109 #[.pointer (some ⟨Bs, 0, none⟩), .pointer (some ⟨Bn, 0, none⟩)] (fun x : Sn => #[V x]) (Stays n₀ Bn) (fun ys => ys = live now zs) (fun pre => pre <+: live now zs) zs.length w := fun l J Jx W hW hJ _ hY h0 =>
 living1_in F n hF hro hn l Bs Bn n₀ c A now zs hl J Jx (fun pre W o h => hJ pre W _ none h (World.grownBy_alloc W o none) (fun r e => by cases e)) hY W
  ((hW.cell (p := ⟨Bs, 0, none⟩) (World.block_lt_of_cell? w _ hBs)).trans hBs) ((hW.cell (p := ⟨Bn, 0, none⟩) (World.block_lt_of_cell? w _ hBn)).trans hBn) (Nat.le_trans hn₀ hW.size) (hs.below (hW.mono hn₀)) h0
end Aggr
end Go.Proofs.YtohdlnefgieenaaGreat
namespace Go.Law
open Go.RowKit
theorem ownFrom_size {β : Type} {B k : Nat} : OwnFrom B (fun (_ : β) W => k < W.heap.size) := fun _ _ _ _ hs hg _ => Nat.lt_of_lt_of_le hs hg.size
section
variable {n₀ g p q w0 k : Nat} {w W W1 : World} {t t' : TypeId} {cs : Array Value}
theorem Is.putObj (h : Is W p t cs) {D : Nat} {o : Obj} (hD : W.heap[D]? = some o) (ho : o.isCells = false) (o' : Obj) : Is (W.putObj D o') p t cs := by
 refine (World.putObj_heap_other ?_).trans h
 rintro rfl
 rw [show W.heap[p]? = _ from h] at hD
 cases hD
 cases ho
structure Trip (n₀ g k : Nat) (w W W1 : World) : Prop where
 keeps : KeepsOthers W W1
 stays : Stays n₀ g W W1
 below : Below n₀ w W1
 size : k < W1.heap.size
theorem Trip.refl (hB : Below n₀ w W) (hz : k < W.heap.size) : Trip n₀ g k w W W := ⟨KeepsOthers.refl _, Stays.refl _ _ _, hB, hz⟩
theorem Trip.alloc (h : Trip n₀ g k w W W1) (hn : n₀ ≤ W1.heap.size) (hg : g < W1.heap.size) (o : Obj) : Trip n₀ g k w W (W1.alloc o) :=
 ⟨h.keeps.trans (KeepsOthers.alloc _ _), h.stays.alloc hn hg o, h.below.alloc hn o, by have := h.size; simp; omega⟩
theorem Trip.store (h : Trip n₀ g k w W W1) {p : Addr} (hp : n₀ ≤ p.block) (hg : g ≠ p.block) (v : Value) : Trip n₀ g k w W (W1.setCell p v) :=
 ⟨h.keeps.trans (KeepsOthers.setCell _ _ _), h.stays.store hp hg v, h.below.setCell hp v, by have := h.size; simpa using this⟩
theorem Trip.putLen {B p4 p5 p6 : Nat} {t4 t5 t6 : TypeId} {c4 c5 c5' : Array Value} {a b b' : Value} (h : Trip n₀ g k w W W1) (i5 : Is W1 p5 t5 c5) (i6 : Is W1 p6 t6 #[a]) (i4 : Is W1 p4 t4 c4) (h6 : n₀ ≤ p6) (g6 : g ≠ p6) (h56 : p5 ≠ p6) (h46 : p4 ≠ p6) (hc : c5 = c5') (hb : b = b') :
  KeepsFrom B W (W1.setCell ⟨p6, 0, none⟩ b) ∧ Stays n₀ g W (W1.setCell ⟨p6, 0, none⟩ b) ∧ (Is (W1.setCell ⟨p6, 0, none⟩ b) p5 t5 c5' ∧ Is (W1.setCell ⟨p6, 0, none⟩ b) p6 t6 #[b']) ∧ Is (W1.setCell ⟨p6, 0, none⟩ b) p4 t4 c4 ∧ Below n₀ w (W1.setCell ⟨p6, 0, none⟩ b) ∧ k < (W1.setCell ⟨p6, 0, none⟩ b).heap.size := by
 subst hb hc
 have h2 := h.store (p := ⟨p6, 0, none⟩) h6 g6 b
 exact ⟨h2.keeps.from B, h2.stays, ⟨i5.far (p := ⟨p6, 0, none⟩) h56 b, i6.set 0 b rfl⟩, i4.far (p := ⟨p6, 0, none⟩) h46 b, h2.below, h2.size⟩
theorem Trip.put4 {p5 : Nat} {t5 : TypeId} {a0 a1 a2 a3 : Value} (h : Trip n₀ g k w W W1) (i5 : Is W1 p5 t5 #[a0, a1, a2, a3]) (h5 : n₀ ≤ p5) (g5 : g ≠ p5) (b0 b1 b2 b3 : Value) :
  Trip n₀ g k w W ((((W1.setCell ⟨p5, 0, none⟩ b0).setCell ⟨p5, 1, none⟩ b1).setCell ⟨p5, 2, none⟩ b2).setCell ⟨p5, 3, none⟩ b3) ∧ Is ((((W1.setCell ⟨p5, 0, none⟩ b0).setCell ⟨p5, 1, none⟩ b1).setCell ⟨p5, 2, none⟩ b2).setCell ⟨p5, 3, none⟩ b3) p5 t5 #[b0, b1, b2, b3] :=
 ⟨(((h.store (p := ⟨p5, 0, none⟩) h5 g5 b0).store (p := ⟨p5, 1, none⟩) h5 g5 b1).store (p := ⟨p5, 2, none⟩) h5 g5 b2).store (p := ⟨p5, 3, none⟩) h5 g5 b3, (((i5.set 0 b0 rfl).set 1 b1 rfl).set 2 b2 rfl).set 3 b3 rfl⟩
theorem Is.far4 {p5 : Nat} {t6 : TypeId} {c6 : Array Value} {p6 : Nat} (h : Is W1 p6 t6 c6) (h56 : p6 ≠ p5) (b0 b1 b2 b3 : Value) : Is ((((W1.setCell ⟨p5, 0, none⟩ b0).setCell ⟨p5, 1, none⟩ b1).setCell ⟨p5, 2, none⟩ b2).setCell ⟨p5, 3, none⟩ b3) p6 t6 c6 :=
 (((h.far (p := ⟨p5, 0, none⟩) h56 b0).far (p := ⟨p5, 1, none⟩) h56 b1).far (p := ⟨p5, 2, none⟩) h56 b2).far (p := ⟨p5, 3, none⟩) h56 b3
end
end Go.Law
namespace Go.Proofs.YtohdlnefgieenaaGreat
open Go.RowKit Go.Shelf
attribute [local go_sem] Oper.semAt_some
namespace Aggr
open Go.Law

set_option maxRecDepth 100000 in
set_option maxHeartbeats 4000000 in
theorem of_in (F : Fence) (n : Nat) (hF : ∀ f, F.fn f) (hro : F.round = none) (hn : 4 ≤ n) (now : Int) (zs : List Sn) (A : Option Addr) (c : Nat) (w : World) (hs : Seq w 0 w.heap.size A (flatS zs)) (hl : zs.length ≤ maxLen) :
  CallsIn F n Tryz.prog 68 #[.slice A zs.length c, .int .u64 now] w fun e w' => e = .returned (PV (live now zs)) ∧ Below w.heap.size w w' := by
 have h1 : 1 ≤ n := by omega
 have HS := Lib.hid hs
 have HLM := Lib.hid hl
 unfold maxLen at hl
 clear hs
 refine callsIn_of_wp_marks Tryz.func68 rfl (hF _) ?_ hro
 simp only [Tryz.ntmps68, List.size_toArray, List.length_cons, List.length_nil, Nat.reduceAdd, Nat.reduceSub, Array.replicate_succ, Array.replicate_zero, List.push_toArray, List.append_toArray, List.nil_append, List.cons_append]
 gi_wp2
 refine (living_in F (n - 1) hF hro _ A zs.length c now).mono ?_
 rintro e w' ⟨rfl, rfl⟩
 have I4 := (((((Is.new w 57 #[.int .i64 0, .int .i64 0, .int .i64 0] rfl).alloc (.cells #[.int .i64 0, .int .i64 0, .int .i64 0, .int .u64 0] 138)).alloc (.cells #[.int .i64 0] 3)).alloc (.cells #[.slice A zs.length c] 105)).alloc (.cells #[.int .u64 now] 22))
 have I5 := ((((Is.new (w.alloc (.cells #[.int .i64 0, .int .i64 0, .int .i64 0] 57)) 138 #[.int .i64 0, .int .i64 0, .int .i64 0, .int .u64 0] (g := w.heap.size + 1) (by simp)).alloc (.cells #[.int .i64 0] 3)).alloc (.cells #[.slice A zs.length c] 105)).alloc (.cells #[.int .u64 now] 22))
 have I6 := (((Is.new ((w.alloc (.cells #[.int .i64 0, .int .i64 0, .int .i64 0] 57)).alloc (.cells #[.int .i64 0, .int .i64 0, .int .i64 0, .int .u64 0] 138)) 3 #[.int .i64 0] (g := w.heap.size + 1 + 1) (by simp)).alloc (.cells #[.slice A zs.length c] 105)).alloc (.cells #[.int .u64 now] 22))
 have I7 := ((Is.new (((w.alloc (.cells #[.int .i64 0, .int .i64 0, .int .i64 0] 57)).alloc (.cells #[.int .i64 0, .int .i64 0, .int .i64 0, .int .u64 0] 138)).alloc (.cells #[.int .i64 0] 3)) 105 #[.slice A zs.length c] (g := w.heap.size + 1 + 1 + 1) (by simp)).alloc (.cells #[.int .u64 now] 22))
 have I8 := Is.new ((((w.alloc (.cells #[.int .i64 0, .int .i64 0, .int .i64 0] 57)).alloc (.cells #[.int .i64 0, .int .i64 0, .int .i64 0, .int .u64 0] 138)).alloc (.cells #[.int .i64 0] 3)).alloc (.cells #[.slice A zs.length c] 105)) 22 #[.int .u64 now] (g := w.heap.size + 1 + 1 + 1 + 1) (by simp)
 have B0 := (((((Below.refl w.heap.size w).alloc (Nat.le_refl _) (.cells #[.int .i64 0, .int .i64 0, .int .i64 0] 57)).alloc (by simp) (.cells #[.int .i64 0, .int .i64 0, .int .i64 0, .int .u64 0] 138)).alloc (by simp; omega) (.cells #[.int .i64 0] 3)).alloc (by simp; omega) (.cells #[.slice A zs.length c] 105)).alloc (by simp; omega) (.cells #[.int .u64 now] 22)
 have hsz : (((((w.alloc (.cells #[.int .i64 0, .int .i64 0, .int .i64 0] 57)).alloc (.cells #[.int .i64 0, .int .i64 0, .int .i64 0, .int .u64 0] 138)).alloc (.cells #[.int .i64 0] 3)).alloc (.cells #[.slice A zs.length c] 105)).alloc (.cells #[.int .u64 now] 22)).heap.size = w.heap.size + 5 := by simp
 simp only [World.size_alloc]
 generalize ((((w.alloc (.cells #[.int .i64 0, .int .i64 0, .int .i64 0] 57)).alloc (.cells #[.int .i64 0, .int .i64 0, .int .i64 0, .int .u64 0] 138)).alloc (.cells #[.int .i64 0] 3)).alloc (.cells #[.slice A zs.length c] 105)).alloc (.cells #[.int .u64 now] 22) = W0 at *
 have hsz' : w.heap.size + 5 ≤ W0.heap.size := by omega
 clear hsz
 have HB0 := Lib.hid B0
 have HS0 := Lib.hid (HS.out.below B0)
 clear HS B0
 gi_wp2
 refine wpIn_rangeFunc_ownH hro h1 (gf := 109) (lb := #[.pointer (some ⟨w.heap.size + 1 + 1 + 1, 0, none⟩), .pointer (some ⟨w.heap.size + 1 + 1 + 1 + 1, 0, none⟩)]) rfl (hF _) (enters_of Tryz.func109 (by kernel_rfl) rfl)
  (living_stops F (n - 1) hF hro (by omega) (w.heap.size + 1 + 1 + 1) (w.heap.size + 1 + 1 + 1 + 1) w.heap.size c A now zs HLM.out W0 (by omega) (I7.cell' rfl) (I8.cell' rfl) HS0.out) (fun h k => h.trans k) (stays_b (by omega) (by omega)) (Below.refl _ _) (fun _ => rfl)
  (fun pre W => (Is W (w.heap.size + 1) 138 (cellsS (top pre)).toArray ∧ Is W (w.heap.size + 1 + 1) 3 #[.int .i64 (pre.length : Int)]) ∧ Is W w.heap.size 57 #[.int .i64 0, .int .i64 0, .int .i64 0] ∧ Below w.heap.size w W ∧ w.heap.size + 4 < W.heap.size)
  (fun _ _ _ => False)
  (OwnFrom.and (OwnFrom.and (ownFrom_is _) (ownFrom_is _)) (OwnFrom.and (ownFrom_is _) (OwnFrom.and (ownFrom_below (Nat.le_refl _) (by omega)) ownFrom_size)))
  (fun _ _ _ _ _ hs _ _ => hs)
  ⟨⟨I5, I6⟩, I4, HB0.out, by omega⟩
  (fun x a' W => ∃ Bx, w.heap.size + 4 < Bx ∧ Is W Bx 138 #[.int .i64 x.1, .int .i64 x.2.1, .int .i64 x.2.2.1, .int .u64 x.2.2.2] ∧ a' = { tmps := #[.slice A zs.length c, .int .u64 now, undef, undef, .pointer (some ⟨w.heap.size, 0, none⟩), .pointer (some ⟨w.heap.size + 1, 0, none⟩), .pointer (some ⟨w.heap.size + 1 + 1, 0, none⟩), .pointer (some ⟨Bx, 0, none⟩), .slice A zs.length c, .int .u64 now, .func (.func 109) #[] #[.pointer (some ⟨w.heap.size + 1 + 1 + 1, 0, none⟩), .pointer (some ⟨w.heap.size + 1 + 1 + 1 + 1, 0, none⟩)], V x, undef, undef, undef, undef, undef, undef, undef, undef, undef, undef, undef, undef, undef, undef, undef, undef], defers := [] })
  (fun x a' _ X Y row hs hg hr => by obtain ⟨Bx, h1, h3, h4⟩ := hs; exact ⟨Bx, h1, ownFrom_is (fun (_ : Unit) => #[.int .i64 x.1, .int .i64 x.2.1, .int .i64 x.2.2.1, .int .u64 x.2.2.2]) () X Y row h3 hg hr, h4⟩)
  ?assign ?body ?done ?stop
 case assign =>
  rintro l pre ⟨x0, x1, x2, x3⟩ W K ⟨⟨i5, i6⟩, i4, hB, hz⟩ hK
  simp only [V]
  gi_wp2
  exact hK _ _ ((KeepsOthers.alloc _ _).from _) ((Stays.refl _ _ W).alloc (by omega) (by omega) _) ⟨⟨i5.alloc _, i6.alloc _⟩, i4.alloc _, hB.alloc hB.size _, by simp; omega⟩ ⟨W.heap.size, by omega, Is.new W _ _ rfl, rfl⟩
 case body =>
  rintro l pre ⟨x0, x1, x2, x3⟩ a' W hl ⟨r, hr⟩ ⟨⟨i5, i6⟩, i4, hB, hz⟩ ⟨Bx, hBx, iX, rfl⟩ hlt
  clear HS0 HB0 I4 I5 I6 I7 I8 hr
  have HT := Lib.hid (top_snoc pre (x0, x1, x2, x3))
  have hw : Trip w.heap.size (w.heap.size + 1 + 1 + 1 + 1) (w.heap.size + 4) w W W := Trip.refl hB hz
  have HL : Hid ((pre.length : Int) + 1 = (((pre ++ [(x0, x1, x2, x3)]).length : Nat) : Int)) := by show _ = _; simp
  generalize top pre = t at *
  obtain ⟨t0, t1, t2, t3⟩ := t
  have c60 : W.cell? ⟨w.heap.size + 1 + 1, 0, none⟩ = some (.int .i64 (pre.length : Int)) := i6.cell' rfl
  have f60 := i6.frozen 0
  have c50 : W.cell? ⟨w.heap.size + 1, 0, none⟩ = some (.int .i64 t0) := i5.cell' rfl
  have c51 : W.cell? ⟨w.heap.size + 1, 1, none⟩ = some (.int .i64 t1) := i5.cell' rfl
  have c52 : W.cell? ⟨w.heap.size + 1, 2, none⟩ = some (.int .i64 t2) := i5.cell' rfl
  have c53 : W.cell? ⟨w.heap.size + 1, 3, none⟩ = some (.int .u64 t3) := i5.cell' rfl
  have f50 := i5.frozen 0
  have f51 := i5.frozen 1
  have f52 := i5.frozen 2
  have f53 := i5.frozen 3
  have cX0 : W.cell? ⟨Bx, 0, none⟩ = some (.int .i64 x0) := iX.cell' rfl
  have cX1 : W.cell? ⟨Bx, 1, none⟩ = some (.int .i64 x1) := iX.cell' rfl
  have cX2 : W.cell? ⟨Bx, 2, none⟩ = some (.int .i64 x2) := iX.cell' rfl
  have cX3 : W.cell? ⟨Bx, 3, none⟩ = some (.int .u64 x3) := iX.cell' rfl
  have l6 := i6.lt
  have l5 := i5.lt
  have lX := iX.lt
  have IW := Lib.hid (⟨i5, i6, i4, hw⟩ : _ ∧ _ ∧ _ ∧ _)
  have iX := Lib.hid iX
  clear i5 i6 i4 hw hB
  have hpl : pre.length + 1 ≤ zs.length := by omega
  clear hlt
  by_cases hp : pre.length = 0
  ·have d0 : ((pre.length : Int) == 0) = true := by simpa using hp
   gi_wp2
   obtain ⟨i5, i6, i4, hw⟩ := IW.out
   have ht : top (pre ++ [(x0, x1, x2, x3)]) = (x0, x1, x2, x3) := by rw [HT.out, if_pos (.inl hp)]
   obtain ⟨h4, j5⟩ := hw.put4 i5 (by omega) (by omega) (.int .i64 x0) (.int .i64 x1) (.int .i64 x2) (.int .u64 x3)
   exact h4.putLen (B := W0.heap.size) j5 (i6.far4 (by omega) _ _ _ _) (i4.far4 (by omega) _ _ _ _) (by omega) (by omega) (by omega) (by omega) (c5' := (cellsS (top (pre ++ [(x0, x1, x2, x3)]))).toArray) (by rw [ht]; rfl) (b := .int .i64 1) (b' := .int .i64 ((pre ++ [(x0, x1, x2, x3)]).length : Int)) (by rw [← HL.out, hp]; rfl)
  ·have d0 : ((pre.length : Int) == 0) = false := by simpa using hp
   have HA : Hid (∀ W1, (W.alloc (C (x0, x1, x2, x3))).alloc (C (t0, t1, t2, t3)) = W1 → (Is W1 (w.heap.size + 1) 138 #[.int .i64 t0, .int .i64 t1, .int .i64 t2, .int .u64 t3] ∧ Is W1 (w.heap.size + 1 + 1) 3 #[.int .i64 (pre.length : Int)] ∧ Is W1 w.heap.size 57 #[.int .i64 0, .int .i64 0, .int .i64 0] ∧ Is W1 Bx 138 #[.int .i64 x0, .int .i64 x1, .int .i64 x2, .int .u64 x3] ∧ Trip w.heap.size (w.heap.size + 1 + 1 + 1 + 1) (w.heap.size + 4) w W W1)) := by
    rintro W1 rfl
    obtain ⟨i5, i6, i4, hw⟩ := IW.out
    exact ⟨(i5.alloc _).alloc _, (i6.alloc _).alloc _, (i4.alloc _).alloc _, (iX.out.alloc _).alloc _, (hw.alloc (by omega) (by omega) (C (x0, x1, x2, x3))).alloc (by simp; omega) (by simp; omega) (C (t0, t1, t2, t3))⟩
   clear IW
   cases hb : better (x0, x1, x2, x3) (t0, t1, t2, t3) with
   | true =>
     have ht : Hid (top (pre ++ [(x0, x1, x2, x3)]) = (x0, x1, x2, x3)) := by show _ = _; rw [HT.out, if_pos (.inr hb)]
     gi_wp2_with ((try refine ⟨fun _ => by omega, ?_⟩); gi_at_call 89; refine (CallsIn.inRound l (better_in F (n - 1 - 1 - 1) hF hro (x0, x1, x2, x3) (t0, t1, t2, t3) true hb _)).mono ?_; rintro e W1 ⟨rfl, hW1⟩; clear c60 f60 c50 c51 c52 c53 f50 f51 f52 f53 cX0 cX1 cX2 cX3 l6 l5 lX; obtain ⟨i5, i6, i4, jX, hw⟩ := HA.out W1 hW1; clear hW1 HA; have c60 : W1.cell? ⟨w.heap.size + 1 + 1, 0, none⟩ = some (.int .i64 (pre.length : Int)) := i6.cell' rfl; have f60 := i6.frozen 0; have c50 : W1.cell? ⟨w.heap.size + 1, 0, none⟩ = some (.int .i64 t0) := i5.cell' rfl; have c51 : W1.cell? ⟨w.heap.size + 1, 1, none⟩ = some (.int .i64 t1) := i5.cell' rfl; have c52 : W1.cell? ⟨w.heap.size + 1, 2, none⟩ = some (.int .i64 t2) := i5.cell' rfl; have c53 : W1.cell? ⟨w.heap.size + 1, 3, none⟩ = some (.int .u64 t3) := i5.cell' rfl; have f50 := i5.frozen 0; have f51 := i5.frozen 1; have f52 := i5.frozen 2; have f53 := i5.frozen 3; have cX0 : W1.cell? ⟨Bx, 0, none⟩ = some (.int .i64 x0) := jX.cell' rfl; have cX1 : W1.cell? ⟨Bx, 1, none⟩ = some (.int .i64 x1) := jX.cell' rfl; have cX2 : W1.cell? ⟨Bx, 2, none⟩ = some (.int .i64 x2) := jX.cell' rfl; have cX3 : W1.cell? ⟨Bx, 3, none⟩ = some (.int .u64 x3) := jX.cell' rfl; have l6 := i6.lt; have l5 := i5.lt; have IW := Lib.hid (⟨i5, i6, i4, hw⟩ : _ ∧ _ ∧ _ ∧ _); clear i5 i6 i4 jX hw)
     obtain ⟨i5, i6, i4, hw⟩ := IW.out
     obtain ⟨h4, j5⟩ := hw.put4 i5 (by omega) (by omega) (.int .i64 x0) (.int .i64 x1) (.int .i64 x2) (.int .u64 x3)
     exact h4.putLen (B := W0.heap.size) j5 (i6.far4 (by omega) _ _ _ _) (i4.far4 (by omega) _ _ _ _) (by omega) (by omega) (by omega) (by omega) (c5' := (cellsS (top (pre ++ [(x0, x1, x2, x3)]))).toArray) (by rw [ht.out]; rfl) (b := .int .i64 ((pre.length : Int) + 1)) (b' := .int .i64 ((pre ++ [(x0, x1, x2, x3)]).length : Int)) (by rw [← HL.out])
   | false =>
     have ht : Hid (top (pre ++ [(x0, x1, x2, x3)]) = (t0, t1, t2, t3)) := by show _ = _; rw [HT.out, if_neg (fun h => h.elim hp (by rw [hb]; simp))]
     gi_wp2_with ((try refine ⟨fun _ => by omega, ?_⟩); gi_at_call 89; refine (CallsIn.inRound l (better_in F (n - 1 - 1 - 1) hF hro (x0, x1, x2, x3) (t0, t1, t2, t3) false hb _)).mono ?_; rintro e W1 ⟨rfl, hW1⟩; clear c60 f60 c50 c51 c52 c53 f50 f51 f52 f53 cX0 cX1 cX2 cX3 l6 l5 lX; obtain ⟨i5, i6, i4, jX, hw⟩ := HA.out W1 hW1; clear hW1 HA; have c60 : W1.cell? ⟨w.heap.size + 1 + 1, 0, none⟩ = some (.int .i64 (pre.length : Int)) := i6.cell' rfl; have f60 := i6.frozen 0; have l6 := i6.lt; have l5 := i5.lt; have IW := Lib.hid (⟨i5, i6, i4, hw⟩ : _ ∧ _ ∧ _ ∧ _); clear i5 i6 i4 jX hw)
     obtain ⟨i5, i6, i4, hw⟩ := IW.out
     exact hw.putLen (B := W0.heap.size) i5 i6 i4 (by omega) (by omega) (by omega) (by omega) (c5' := (cellsS (top (pre ++ [(x0, x1, x2, x3)]))).toArray) (by rw [ht.out]; rfl) (b := .int .i64 ((pre.length : Int) + 1)) (b' := .int .i64 ((pre ++ [(x0, x1, x2, x3)]).length : Int)) (by rw [← HL.out])
 case done =>
  rintro D ys W hD rfl ⟨⟨i5, i6⟩, i4, hB, hz⟩ hK
  obtain ⟨t0, t1, t2, t3, ht⟩ : ∃ t0 t1 t2 t3, top (live now zs) = (t0, t1, t2, t3) := ⟨_, _, _, _, rfl⟩
  obtain ⟨m, hm⟩ : ∃ m : Nat, (live now zs).length = m := ⟨_, rfl⟩
  have hle : m ≤ zs.length := by rw [← hm]; exact live_length now zs
  have HP : Hid (PV (live now zs) = .agg #[.int .i64 t1, .int .i64 t2, .int .i64 (m : Int)]) := by show _ = _; unfold PV; rw [ht, hm]
  rw [ht] at i5
  rw [hm] at i6
  clear ht hm
  have c60 : W.cell? ⟨w.heap.size + 1 + 1, 0, none⟩ = some (.int .i64 (m : Int)) := i6.cell' rfl
  have c51 : W.cell? ⟨w.heap.size + 1, 1, none⟩ = some (.int .i64 t1) := i5.cell' rfl
  have c52 : W.cell? ⟨w.heap.size + 1, 2, none⟩ = some (.int .i64 t2) := i5.cell' rfl
  have c40 : W.cell? ⟨w.heap.size, 0, none⟩ = some (.int .i64 0) := i4.cell' rfl
  have c41 : W.cell? ⟨w.heap.size, 1, none⟩ = some (.int .i64 0) := i4.cell' rfl
  have c42 : W.cell? ⟨w.heap.size, 2, none⟩ = some (.int .i64 0) := i4.cell' rfl
  have f40 := i4.frozen 0
  have f41 := i4.frozen 1
  have f42 := i4.frozen 2
  have l4 := i4.lt
  have l5 := i5.lt
  have l6 := i6.lt
  have II := Lib.hid (⟨i4, hB⟩ : _ ∧ _)
  clear i4 i5 i6 hB I4 I5 I6 I7 I8 HS0 HB0
  gi_wp2
  obtain ⟨i4, hB⟩ := II.out
  have hK' : (((W.setCell ⟨w.heap.size, 0, none⟩ (.int .i64 t1)).setCell ⟨w.heap.size, 1, none⟩ (.int .i64 t2)).setCell ⟨w.heap.size, 2, none⟩ (.int .i64 (m : Int))).heap[D]? = some (.deferred (some [])) := (((KeepsOthers.setCell W _ _).trans (KeepsOthers.setCell _ _ _)).trans (KeepsOthers.setCell _ _ _)).same D _ hK rfl
  have j4 : Is (((W.setCell ⟨w.heap.size, 0, none⟩ (.int .i64 t1)).setCell ⟨w.heap.size, 1, none⟩ (.int .i64 t2)).setCell ⟨w.heap.size, 2, none⟩ (.int .i64 (m : Int))) w.heap.size 57 #[.int .i64 t1, .int .i64 t2, .int .i64 (m : Int)] := ((i4.set 0 _ rfl).set 1 _ rfl).set 2 _ rfl
  have hB' := ((hB.setCell (p := ⟨w.heap.size, 0, none⟩) (Nat.le_refl _) (.int .i64 t1)).setCell (p := ⟨w.heap.size, 1, none⟩) (Nat.le_refl _) (.int .i64 t2)).setCell (p := ⟨w.heap.size, 2, none⟩) (Nat.le_refl _) (.int .i64 (m : Int))
  generalize ((W.setCell ⟨w.heap.size, 0, none⟩ (.int .i64 t1)).setCell ⟨w.heap.size, 1, none⟩ (.int .i64 t2)).setCell ⟨w.heap.size, 2, none⟩ (.int .i64 (m : Int)) = W4 at *
  have k4 := j4.putObj hK' rfl (.deferred none)
  have c0 : (W4.putObj D (.deferred none)).cell? ⟨w.heap.size, 0, none⟩ = some (.int .i64 t1) := k4.cell' rfl
  have c1 : (W4.putObj D (.deferred none)).cell? ⟨w.heap.size, 1, none⟩ = some (.int .i64 t2) := k4.cell' rfl
  have c2 : (W4.putObj D (.deferred none)).cell? ⟨w.heap.size, 2, none⟩ = some (.int .i64 (m : Int)) := k4.cell' rfl
  refine ⟨by simp, .inl ⟨_, _, rfl, run_takeDeferred hK', ?_⟩⟩
  refine ⟨.agg #[.int .i64 t1, .int .i64 t2, .int .i64 (m : Int)], by simp [results, Tryz.results68, go_sem, c0, c1, c2], by rw [HP.out], hB'.trans (belowK_b (w := w) (Nat.le_refl _) W4 D _ _ (by omega) hK' rfl rfl)⟩
 case stop =>
  rintro D c pre W _ _ h _
  exact h.elim
theorem of_ (now : Int) (zs : List Sn) (A : Option Addr) (c : Nat) (w : World) (hs : Seq w 0 w.heap.size A (flatS zs)) (hl : zs.length ≤ maxLen) :
  Calls Tryz.prog 68 #[.slice A zs.length c, .int .u64 now] w fun e w' => e = .returned (PV (live now zs)) ∧ Below w.heap.size w w' :=
 (callsIn_wide (n := 4)).1 (of_in Fence.wide 4 (fun _ => trivial) rfl (Nat.le_refl _) now zs A c w hs hl)
end Aggr
end Go.Proofs.YtohdlnefgieenaaGreat
