/-
  Events and changes as plain data, and their cells. General over programs.
-/
import Derived.Test.YtohdlnefgieenaaGreatJ3
import Derived.Test.YtohdlnefgieenaaGreatJ15
import Derived.Test.YtohdlnefgieenaaGreatJ4
import Derived.WalkKit
import Derived.WalkSpells
import Derived.WalkLawsBesides
import Derived.Lib.Hide
import Derived.StillTailTactics
import Derived.Deep.QuietTactic
import Derived.BigQuiet
import Derived.Deep.RegionLaw
import Derived.Deep.DeepCutAuto
import Derived.RangeFuncNested
import Derived.RangeFuncLeaves
import Derived.RangeFuncBound
import Derived.RangeFuncCalls
import Derived.Shelf.Abstract
import Derived.OwnWalkIn
import Derived.TacticsInMore
import Derived.LoopNIn
import Derived.LoopIn
namespace Go.Law
open Go.RowKit
structure Ev where
 us : ByteArray
 o1 : Int
 o2 : Int
 o3 : Int
 n1 : Int
 n2 : Int
 n3 : Int
 sq : Int
deriving DecidableEq
structure Cg where
 us : ByteArray
 o1 : Int
 o2 : Int
 o3 : Int
 n1 : Int
 n2 : Int
 n3 : Int
deriving DecidableEq
abbrev Cg.ev (q : Cg) (s : Int) : Ev := ⟨q.us, q.o1, q.o2, q.o3, q.n1, q.n2, q.n3, s⟩
def cellsE (q : Ev) : List Value := [.string q.us, .int .i64 q.o1, .int .i64 q.o2, .int .i64 q.o3, .int .i64 q.n1, .int .i64 q.n2, .int .i64 q.n3, .int .u64 q.sq]
def flatE (l : List Ev) : List Value := l.flatMap cellsE
abbrev Ev.val (q : Ev) : Value := .agg #[.string q.us, .int .i64 q.o1, .int .i64 q.o2, .int .i64 q.o3, .int .i64 q.n1, .int .i64 q.n2, .int .i64 q.n3, .int .u64 q.sq]
abbrev Ev.box (q : Ev) : Array Value := #[.string q.us, .int .i64 q.o1, .int .i64 q.o2, .int .i64 q.o3, .int .i64 q.n1, .int .i64 q.n2, .int .i64 q.n3, .int .u64 q.sq]
def cellsG (q : Cg) : List Value := [.string q.us, .int .i64 q.o1, .int .i64 q.o2, .int .i64 q.o3, .int .i64 q.n1, .int .i64 q.n2, .int .i64 q.n3]
def flatG (l : List Cg) : List Value := l.flatMap cellsG
abbrev Cg.box (q : Cg) : Array Value := #[.string q.us, .int .i64 q.o1, .int .i64 q.o2, .int .i64 q.o3, .int .i64 q.n1, .int .i64 q.n2, .int .i64 q.n3]
theorem one_E (q : Ev) : ∀ u ∈ cellsE q, u.oneCell' = true := by
 intro u hu
 simp [cellsE] at hu
 rcases hu with rfl | rfl | rfl | rfl | rfl | rfl | rfl | rfl <;> rfl
theorem flatE_one (l : List Ev) : ∀ u ∈ flatE l, u.oneCell' = true := by
 intro u hu
 obtain ⟨q, _, hq⟩ := List.mem_flatMap.1 hu
 exact one_E q u hq
theorem flatE_length (l : List Ev) : (flatE l).length = l.length * 8 := rows_length (cells := cellsE) (fun _ => rfl) l
theorem flatE_app (xs ys : List Ev) : flatE (xs ++ ys) = flatE xs ++ flatE ys := List.flatMap_append
theorem flatE_snoc (zs : List Ev) (q : Ev) : flatE (zs ++ [q]) = flatE zs ++ cellsE q := by rw [flatE_app]; simp [flatE]
structure EvAt (w : World) (b o : Nat) (q : Ev) : Prop where
 c0 : w.cell? ⟨b, o, none⟩ = some (.string q.us)
 c1 : w.cell? ⟨b, o + 1, none⟩ = some (.int .i64 q.o1)
 c2 : w.cell? ⟨b, o + 2, none⟩ = some (.int .i64 q.o2)
 c3 : w.cell? ⟨b, o + 3, none⟩ = some (.int .i64 q.o3)
 c4 : w.cell? ⟨b, o + 4, none⟩ = some (.int .i64 q.n1)
 c5 : w.cell? ⟨b, o + 5, none⟩ = some (.int .i64 q.n2)
 c6 : w.cell? ⟨b, o + 6, none⟩ = some (.int .i64 q.n3)
 c7 : w.cell? ⟨b, o + 7, none⟩ = some (.int .u64 q.sq)
theorem Seq.ev {w : World} {lo B : Nat} {A : Option Addr} {l : List Ev} {i : Nat} (h : Seq w lo B A (flatE l)) (hi : i < l.length) : ∃ b off, A = some ⟨b, off, none⟩ ∧ lo ≤ b ∧ b < B ∧ EvAt w b (off + i * 8) l[i] := by
 obtain ⟨b, off, hA, h1, h2, hc⟩ := Seq.row (cells := cellsE) (fun _ => rfl) (by decide : 0 < 8) h hi
 exact ⟨b, off, hA, h1, h2, by simpa using hc 0 _ rfl, hc 1 _ rfl, hc 2 _ rfl, hc 3 _ rfl, hc 4 _ rfl, hc 5 _ rfl, hc 6 _ rfl, hc 7 _ rfl⟩
theorem new_E (w : World) (q : Ev) (t : TypeId) {g : Nat} (hg : g = w.heap.size) : ∀ (j : Nat) (u : Value), (cellsE q)[j]? = some u → (w.alloc (.cells q.box t)).cell? ((⟨g, 0, none⟩ : Addr).add j) = some u := by
 subst hg
 intro j u hj
 match j, hj with
 | 0, hj => simp [cellsE] at hj; subst hj; simp [Addr.add]
 | 1, hj => simp [cellsE] at hj; subst hj; simp [Addr.add]
 | 2, hj => simp [cellsE] at hj; subst hj; simp [Addr.add]
 | 3, hj => simp [cellsE] at hj; subst hj; simp [Addr.add]
 | 4, hj => simp [cellsE] at hj; subst hj; simp [Addr.add]
 | 5, hj => simp [cellsE] at hj; subst hj; simp [Addr.add]
 | 6, hj => simp [cellsE] at hj; subst hj; simp [Addr.add]
 | 7, hj => simp [cellsE] at hj; subst hj; simp [Addr.add]
 | j + 8, hj => simp [cellsE] at hj
structure CgAt (w : World) (b o : Nat) (q : Cg) : Prop where
 c0 : w.cell? ⟨b, o, none⟩ = some (.string q.us)
 c1 : w.cell? ⟨b, o + 1, none⟩ = some (.int .i64 q.o1)
 c2 : w.cell? ⟨b, o + 2, none⟩ = some (.int .i64 q.o2)
 c3 : w.cell? ⟨b, o + 3, none⟩ = some (.int .i64 q.o3)
 c4 : w.cell? ⟨b, o + 4, none⟩ = some (.int .i64 q.n1)
 c5 : w.cell? ⟨b, o + 5, none⟩ = some (.int .i64 q.n2)
 c6 : w.cell? ⟨b, o + 6, none⟩ = some (.int .i64 q.n3)
theorem Seq.cg {w : World} {lo B : Nat} {A : Option Addr} {l : List Cg} {i : Nat} (h : Seq w lo B A (flatG l)) (hi : i < l.length) : ∃ b off, A = some ⟨b, off, none⟩ ∧ lo ≤ b ∧ b < B ∧ CgAt w b (off + i * 7) l[i] := by
 obtain ⟨b, off, hA, h1, h2, hc⟩ := Seq.row (cells := cellsG) (fun _ => rfl) (by decide : 0 < 7) h hi
 exact ⟨b, off, hA, h1, h2, by simpa using hc 0 _ rfl, hc 1 _ rfl, hc 2 _ rfl, hc 3 _ rfl, hc 4 _ rfl, hc 5 _ rfl, hc 6 _ rfl⟩
end Go.Law
namespace Go.Proofs.YtohdlnefgieenaaGreat
open Go.RowKit
namespace RingE
open Go.Law (Ev flatE cellsE new_E one_E)
abbrev At (w : World) (base : Nat) (S : Nat → Prop) (b room : Nat) (zs : List Ev) (lost : Bool) : Prop := Law.Ringz 159 63 8 w base S b room zs.length (flatE zs) lost
theorem elem : ∃ i, Law.Elem Tryz.prog 41 63 i (.agg #[.string ⟨#[]⟩, .int .i64 0, .int .i64 0, .int .i64 0, .int .i64 0, .int .i64 0, .int .i64 0, .int .u64 0]) 8 72 := Law.Elem.of Tryz.underlying41 (by kernel_rfl) rfl (by decide)
def Put (w : World) (base : Nat) (S : Nat → Prop) (b room : Nat) (zs : List Ev) (lost : Bool) (x : Ev) (e : Ending) (w' : World) : Prop :=
 e = .returned (.bool (decide (zs.length < room))) ∧ ∃ S', At w' base S' b room (Law.putL room zs x) (lost || decide (room ≤ zs.length)) ∧ Law.Touch w w' S ∧ (∀ k, S' k → S k ∨ w.heap.size ≤ k) ∧ ∀ t, t ≠ 159 → t ≠ 63 → Law.Keeps t w w'

set_option maxHeartbeats 400000 in
theorem new (room : Int) (w : World) : Calls Tryz.prog 53 #[.int .i64 room] w fun e w' => e = .returned (.pointer (some ⟨w.heap.size, 0, none⟩)) ∧ w.alloc (.cells #[.int .i64 (room.toNat : Int), .slice none 0 0, .bool false] 159) = w' := by
 have hm : ((room.toNat : Nat) : Int) = max room 0 := by omega
 have HM := Lib.hid hm
 clear hm
 go_enter Tryz.func53, Tryz.ntmps53
 go_wp2_with fail
 ·have e1 : max room 0 = 0 := by omega
  go_ret
  exact ⟨rfl, by rw [e1]⟩
 ·have e1 : max room 0 = room := by omega
  go_ret
  exact ⟨rfl, by rw [e1]⟩

theorem Evs.of {w : World} {g : Nat} {t : TypeId} {x : Ev} (h : Law.Is w g t x.box) : Law.EvAt w g 0 x := ⟨h.cell' rfl, h.cell' rfl, h.cell' rfl, h.cell' rfl, h.cell' rfl, h.cell' rfl, h.cell' rfl, h.cell' rfl⟩
set_option maxRecDepth 100000 in
set_option maxHeartbeats 1600000 in
theorem put (x : Ev) (zs : List Ev) (lost : Bool) (w : World) (base : Nat) (S : Nat → Prop) (b room : Nat) (h : At w base S b room zs lost) (hb : base ≤ w.heap.size) (hl : zs.length ≤ 1000) :
  Calls Tryz.prog 108 #[.pointer (some ⟨b, 0, none⟩), x.val] w (Put w base S b room zs lost x) := by
 obtain ⟨v, hv⟩ := h
 obtain ⟨i0, hE⟩ := elem
 have HE := Lib.hid hE
 have b1 : Below w.heap.size w (w.alloc (.cells x.box 63)) := (Below.refl _ w).alloc (Nat.le_refl _) _
 have hv1 := hv.below b1
 have hi1 : Law.Is (w.alloc (.cells x.box 63)) w.heap.size 63 x.box := Law.Is.new _ _ _ rfl
 have hs1 : w.heap.size < (w.alloc (.cells x.box 63)).heap.size := by simp
 have T1 := Lib.hid (Law.Touch.of_below b1 S)
 have K1 : Hid (∀ t, Law.Keeps t w (w.alloc (.cells x.box 63))) := fun t => Law.Keeps.alloc _
 have HV := Lib.hid hv1
 have HI := Lib.hid hi1
 obtain ⟨A, c, rfl, hc⟩ := Law.own_shape hv.row
 have c0 := hv1.box.cell 0
 have c1 := hv1.box.cell 1
 simp only [List.getElem?_toArray, List.getElem?_cons_zero, List.getElem?_cons_succ] at c0 c1
 clear hv hE b1 hv1 hi1
 by_cases hlt : zs.length < room
 ·have d1 : decide ((room : Int) ≤ (zs.length : Int)) = false := by simp; omega
  have HP : Hid (decide (zs.length < room) = true ∧ decide (room ≤ zs.length) = false ∧ Law.putL room zs x = zs ++ [x]) := by exact ⟨by simp; omega, by simp; omega, Law.putL_yes hlt⟩
  go_enter Tryz.func108, Tryz.ntmps108
  go_wp2_with fail
  generalize w.alloc (.cells x.box 63) = W1 at *
  go_quiet (fail)
  go_wp2_with fail
  have V2 := Lib.hid (HV.out.drewN nq)
  have I2 := Lib.hid (HI.out.drewN nq)
  have T2 := Lib.hid (T1.out.trans (Law.Touch.drewN W1 nq S) (fun k hk => .inl hk))
  have K2 : Hid (∀ t, Law.Keeps t w (W1.drewN nq)) := fun t => (K1.out t).trans (Law.Keeps.drewN t W1 nq)
  have hs2 : w.heap.size < (W1.drewN nq).heap.size := hs1
  clear HV HI T1 K1 hs1 c0 c1
  generalize W1.drewN nq = W2 at *
  have c1 := V2.out.box.cell 1
  simp only [List.getElem?_toArray, List.getElem?_cons_zero, List.getElem?_cons_succ] at c1
  obtain ⟨e0, e1, e2, e3, e4, e5, e6, e7⟩ := Evs.of I2.out
  simp only [Nat.zero_add] at e1 e2 e3 e4 e5 e6 e7
  have O2 := Lib.hid (V2.out.row.alloc (.cells x.box 63))
  have V3 : Hid (Law.RingzV _ _ _ W2.drew _ _ _ _ _ _ _ _) := V2.out.drewN 1
  have T3 : Hid (Law.Touch w W2.drew S) := T2.out.trans (Law.Touch.drewN W2 1 S) (fun k hk => .inl hk)
  have K3 : Hid (∀ t, Law.Keeps t w W2.drew) := fun t => (K2.out t).trans (Law.Keeps.drewN t W2 1)
  have hs3 : w.heap.size < W2.drew.heap.size := hs2
  have l0 := V2.out.box.lt
  have c1a : (W2.alloc (.cells x.box 63)).cell? ⟨b, 1, none⟩ = some (.slice A zs.length c) := (World.cell?_alloc_lt W2 _ ⟨b, 1, none⟩ l0).trans c1
  go_region_law (refine Law.step_append_at (base := 0) (t := 41) rfl (.tmp 22) (.tmp 24) rfl HE.out (.slice A zs.length c) zs.length (flatE zs) (by simp [Act.eval]) (by exact O2.out) ⟨W2.heap.size, 0, none⟩ 1 1 (cellsE x) (by simp [Act.eval]) (by rfl) (by exact new_E W2 x _ rfl) (one_E x) (by unfold maxLen; omega) (by omega) (by omega) ?_; intro v' w1 hown hg hv'; have ⟨R1, R2, R3⟩ := V3.out.next (by decide) (by omega) (v' := v') (us := cellsE x) hown hg (by simpa using hv'); have f1' := R1.frozen 1; have c1' := R1.cell 1; have l1' := R1.lt; simp only [List.getElem?_toArray, List.getElem?_cons_zero, List.getElem?_cons_succ] at c1'; have HR2 := Lib.hid R2; have HR3 := Lib.hid R3; have HK : Hid (∀ t, t ≠ 159 → t ≠ 63 → Law.Keeps t w (w1.setCell ⟨b, 1, none⟩ v')) := fun t h1 h2 => (((K3.out t).trans (Law.Keeps.alloc _)).trans (Law.Keeps.grown (V3.out.row.alloc _) hg (Ne.symm h2))).trans (Law.Keeps.store R1 h1 _); obtain ⟨g', cap', rfl⟩ := ownsRow_succ hown; clear hown hg hv' R1 R2 R3)
  all_goals
   go_wp2_with fail
   go_ret
   exact ⟨by rw [HP.out.1]; rfl, (fun k => S k ∨ W2.drew.heap.size ≤ k ∧ k < w1.heap.size), by rw [HP.out.2.1, HP.out.2.2, Bool.or_false]; unfold At; rw [Law.flatE_snoc, List.length_append]; exact HR2.out, T3.out.trans HR3.out (fun k hk => .inl hk), fun k hk => hk.imp id (fun h => by omega), HK.out⟩
 ·have d1 : decide ((room : Int) ≤ (zs.length : Int)) = true := by simp; omega
  have HP : Hid (decide (zs.length < room) = false ∧ decide (room ≤ zs.length) = true ∧ Law.putL room zs x = zs) := by exact ⟨by simp; omega, by simp; omega, Law.putL_no hlt⟩
  go_enter Tryz.func108, Tryz.ntmps108
  go_wp2_with fail
  generalize w.alloc (.cells x.box 63) = W1 at *
  go_quiet (fail)
  have c2 := (HV.out.drewN nq).box.cell 2
  have f2 := (HV.out.drewN nq).box.frozen 2
  have l0 := (HV.out.drewN nq).box.lt
  simp only [List.getElem?_toArray, List.getElem?_cons_zero, List.getElem?_cons_succ] at c2
  go_wp2_with fail
  go_ret
  exact ⟨by rw [HP.out.1]; rfl, S, by rw [HP.out.2.1, HP.out.2.2, Bool.or_true]; exact (HV.out.drewN nq).mark (by decide), (T1.out.trans (Law.Touch.drewN W1 nq S) (fun k hk => .inl hk)).trans (Law.Touch.store _ _ _ HV.out.inn) (fun k hk => .inl hk), fun k hk => .inl hk,
   fun t h1 _ => ((K1.out t).trans (Law.Keeps.drewN t W1 nq)).trans (Law.Keeps.store (HV.out.drewN nq).box h1 _)⟩
end RingE
end Go.Proofs.YtohdlnefgieenaaGreat
namespace Go.Proofs.YtohdlnefgieenaaGreat
open Go.RowKit Go.Shelf
attribute [local go_sem] Oper.semAt_some
namespace RingE
open Go.Law (Ev flatE cellsE new_E one_E)

set_option maxHeartbeats 400000 in
theorem all_in (F : Fence) (n : Nat) (hF : ∀ f, F.fn f) (hro : F.round = none) (w : World) (b : Nat) (A : Option Addr) (m c : Nat) (hc : w.cell? ⟨b, 1, none⟩ = some (.slice A m c)) :
  CallsIn F n Tryz.prog 115 #[.pointer (some ⟨b, 0, none⟩)] w fun e w' => e = .returned (.func (.func 129) #[] #[.pointer (some ⟨w.heap.size, 0, none⟩)]) ∧ w.alloc (.cells #[.slice A m c] 41) = w' := by
 refine callsIn_of_wp Tryz.func115 rfl (hF _) ?_ hro
 simp only [Tryz.ntmps115, List.size_toArray, List.length_cons, List.length_nil, Nat.reduceAdd, Nat.reduceSub, Array.replicate_succ, Array.replicate_zero, List.push_toArray, List.append_toArray, List.nil_append, List.cons_append]
 gi_wp2
 go_ret
 exact ⟨rfl, rfl⟩

set_option maxRecDepth 100000 in
set_option maxHeartbeats 2000000 in
theorem all1_in (F : Fence) (n : Nat) (hF : ∀ f, F.fn f) (hro : F.round = none) (hn : 1 ≤ n) (l Bs n₀ c : Nat) (A : Option Addr) (zs : List Ev) (hl : zs.length ≤ 1000) (J Jx : List Ev → World → Prop)
  (hA : ∀ pre W o, J pre W → J pre (World.alloc W o))
  (hY : ∀ pre x W, J pre W → pre.length < zs.length → YieldAt F (n - 1) Tryz.prog l #[x.val] W fun e W' =>
   (e = .returned (.bool true) ∧ J (pre ++ [x]) W' ∧ Below n₀ W W') ∨ (e = .returned (.bool false) ∧ Jx (pre ++ [x]) W'))
  (W : World) (hBs : W.cell? ⟨Bs, 0, none⟩ = some (.slice A zs.length c)) (hn₀ : n₀ ≤ W.heap.size) (hs : Law.Seq W 0 n₀ A (flatE zs)) (h0 : J [] W) :
  CallsIn F n Tryz.prog 129 #[.func (.yield l) #[] #[], .pointer (some ⟨Bs, 0, none⟩)] W fun e W' => (∃ v, e = .returned v) ∧
   ((∃ ys, ys = zs ∧ J ys W') ∨ (∃ pre, pre <+: zs ∧ Jx pre W')) := by
 have HS := Lib.hid hs
 clear hs
 refine callsIn_of_wp Tryz.func129 rfl (hF _) ?_ hro
 simp only [Tryz.ntmps129, List.size_toArray, List.length_cons, List.length_nil, Nat.reduceAdd, Nat.reduceSub, Array.replicate_succ, Array.replicate_zero, List.push_toArray, List.append_toArray, List.nil_append, List.cons_append]
 gi_wp2
 gi_loopw [7] (fun i wr => ∃ k : Nat, k ≤ zs.length ∧ i = .int .i64 k ∧ J (zs.take k) wr ∧ Below n₀ W wr) (fun i _ => zs.length - (intOf i).toNat)
 case atStart => exact ⟨0, Nat.zero_le _, rfl, by simpa using h0, Below.refl _ _⟩
 case round =>
  obtain ⟨k, hk, rfl, hJs, hnx⟩ := hrel
  have HX := Lib.hid hnx
  have HJ := Lib.hid hJs
  have sb := hnx.size
  clear hnx hJs
  by_cases hlt : k < zs.length
  ·have ht := Lib.hid (List.take_succ_eq_append_getElem hlt)
   have hp := Lib.hid (List.take_prefix (k + 1) zs)
   obtain ⟨b, off, rfl, _, hb, q0, q1, q2, q3, q4, q5, q6, q7⟩ := (HS.out.below HX.out).ev hlt
   have lb : b < wr.heap.size := by omega
   have hpl : (zs.take k).length ≤ k := by simp; omega
   generalize zs.take k = os at *
   generalize zs[k] = q at *
   obtain ⟨x0, x1, x2, x3, x4, x5, x6, x7⟩ := q
   simp only at q0 q1 q2 q3 q4 q5 q6 q7
   have HX2 := Lib.hid (HX.out.alloc (by omega) (.cells #[.string x0, .int .i64 x1, .int .i64 x2, .int .i64 x3, .int .i64 x4, .int .i64 x5, .int .i64 x6, .int .u64 x7] 63))
   have HJ2 := Lib.hid (hA os wr (.cells #[.string x0, .int .i64 x1, .int .i64 x2, .int .i64 x3, .int .i64 x4, .int .i64 x5, .int .i64 x6, .int .u64 x7] 63) HJ.out)
   obtain ⟨fn, tmps, assign, body, hy, hR⟩ : YieldAt F (n - 1) Tryz.prog l #[.agg #[.string x0, .int .i64 x1, .int .i64 x2, .int .i64 x3, .int .i64 x4, .int .i64 x5, .int .i64 x6, .int .u64 x7]] (wr.alloc (.cells #[.string x0, .int .i64 x1, .int .i64 x2, .int .i64 x3, .int .i64 x4, .int .i64 x5, .int .i64 x6, .int .u64 x7] 63)) _ := hY os ⟨x0, x1, x2, x3, x4, x5, x6, x7⟩ _ HJ2.out (by omega)
   gi_wp2
   refine hR.mono ?_
   rintro e W3 (⟨rfl, hJ3, hk3⟩ | ⟨rfl, hJx3⟩)
   ·gi_wp2
    go_roundw
    case rel => exact ⟨k + 1, by omega, by go_num, by rw [ht.out]; exact hJ3, HX2.out.trans hk3⟩
    case measure => simp [intOf]; omega
   ·gi_wp2
    refine bodyPost_ret (results_none rfl _ _ _) rfl ?_
    exact ⟨⟨_, rfl⟩, .inr ⟨_, by rw [← ht.out]; exact hp.out, hJx3⟩⟩
  ·rw [List.take_of_length_le (by omega)] at HJ
   gi_wp2
   go_end0
   exact ⟨⟨_, rfl⟩, .inl ⟨_, rfl, HJ.out⟩⟩

theorem all_stops (F : Fence) (n : Nat) (hF : ∀ f, F.fn f) (hro : F.round = none) (hn : 1 ≤ n) (Bs n₀ c : Nat) (A : Option Addr) (zs : List Ev) (hl : zs.length ≤ 1000) (w : World) (hBs : Bs < w.heap.size) (hn₀ : n₀ ≤ w.heap.size)
  (hc : w.cell? ⟨Bs, 0, none⟩ = some (.slice A zs.length c)) (hs : Law.Seq w 0 n₀ A (flatE zs)) :
  SeqStopsK F n Tryz.prog 129 #[.pointer (some ⟨Bs, 0, none⟩)] (fun x : Ev => #[x.val]) (Below n₀) (fun ys => ys = zs) (fun pre => pre <+: zs) zs.length w := fun l J Jx W hW hJ _ hY h0 =>
 all1_in F n hF hro hn l Bs n₀ c A zs hl J Jx (fun pre W o h => hJ pre W _ none h (World.grownBy_alloc W o none) (fun r e => by cases e)) hY W ((hW.cell (p := ⟨Bs, 0, none⟩) hBs).trans hc) (Nat.le_trans hn₀ hW.size) (hs.below (hW.mono hn₀)) h0

theorem own_is {β : Type} {B g : Nat} {t : TypeId} (cs : β → Array Value) : OwnFrom B (fun s W => Law.Is W g t (cs s)) := fun s W W' row hs hg hr => by
 refine (hg.block g hs.lt ?_).trans hs
 intro e
 obtain ⟨_, o, ho, hc⟩ := hr g e.symm
 rw [show W.heap[g]? = _ from hs] at ho
 cases ho
 cases hc
def Drained (w : World) (base : Nat) (S : Nat → Prop) (b room : Nat) (zs : List Ev) (lost : Bool) (e : Ending) (w' : World) : Prop :=
 ∃ A c, e = .returned (.tuple #[.slice A zs.length c, .bool lost]) ∧ zs.length ≤ c ∧ Law.Seq w' w.heap.size w'.heap.size A (flatE zs) ∧ At w' base S b room [] false ∧ Law.Touch w w' (fun k => k = b)

set_option maxRecDepth 100000 in
set_option maxHeartbeats 2000000 in
theorem drain_in (n : Nat) (hn : 4 ≤ n) (w : World) (base : Nat) (S : Nat → Prop) (b room : Nat) (zs : List Ev) (lost : Bool) (h : At w base S b room zs lost) (hl : zs.length ≤ 1000) :
  CallsIn Fence.wide n Tryz.prog 98 #[.pointer (some ⟨b, 0, none⟩)] w (Drained w base S b room zs lost) := by
 have h1 : 1 ≤ n := by omega
 have hF : ∀ f, Fence.wide.fn f := fun _ => trivial
 have hro : Fence.wide.round = none := rfl
 obtain ⟨v, hv⟩ := h
 obtain ⟨i0, hE⟩ := elem
 have HE := Lib.hid hE
 have c1 := hv.box.cell 1
 have l0 := hv.box.lt
 obtain ⟨A, c, rfl, hcl⟩ := Law.own_shape hv.row
 have HV := Lib.hid hv
 simp only [List.getElem?_toArray, List.getElem?_cons_zero, List.getElem?_cons_succ] at c1
 clear hv hE
 refine callsIn_of_wp_marks Tryz.func98 rfl (hF _) ?_ hro
 simp only [Tryz.ntmps98, List.size_toArray, List.length_cons, List.length_nil, Nat.reduceAdd, Nat.reduceSub, Array.replicate_succ, Array.replicate_zero, List.push_toArray, List.append_toArray, List.nil_append, List.cons_append]
 gi_wp2_with (gi_at_make; refine wpListIn_make_own _ rfl _ _ 41 rfl w.heap.size 63 i0 (.agg #[.string ⟨#[]⟩, .int .i64 0, .int .i64 0, .int .i64 0, .int .i64 0, .int .i64 0, .int .i64 0, .int .u64 0]) 8 HE.out.ut HE.out.info HE.out.zero HE.out.sz .i64 .i64 (zs.length : Int) zs.length rfl rfl rfl (by rw [HE.out.by_]; omega) (by unfold maxLen; omega) (Nat.le_refl _) ?_; intro w1 hown hgrow)
 have hs1 : w.heap.size < w1.heap.size := (hown.lt _ rfl).2
 have c1' : (w1.alloc (.cells #[.slice (some ⟨w.heap.size, 0, none⟩) 0 zs.length] 41)).cell? ⟨b, 1, none⟩ = some (.slice A zs.length c) :=
  (World.cell?_alloc_lt _ _ ⟨b, 1, none⟩ (by show b < _; omega)).trans ((World.cell?_of_block (hgrow.block b l0 (by simp))).trans c1)
 refine (all_in Fence.wide (n - 1) hF hro _ b A zs.length c c1').mono ?_
 rintro e w' ⟨rfl, rfl⟩
 have bO : Boxed ((w1.alloc (.cells #[.slice (some ⟨w.heap.size, 0, none⟩) 0 zs.length] 41)).alloc (.cells #[.slice A zs.length c] 41)) w1.heap.size 41 (.slice (some ⟨w.heap.size, 0, none⟩) 0 zs.length) := (Boxed.new w1 41 _).alloc _
 have bN := Boxed.new (w1.alloc (.cells #[.slice (some ⟨w.heap.size, 0, none⟩) 0 zs.length] 41)) 41 (.slice A zs.length c)
 have hB0 : Below w.heap.size w ((w1.alloc (.cells #[.slice (some ⟨w.heap.size, 0, none⟩) 0 zs.length] 41)).alloc (.cells #[.slice A zs.length c] 41)) :=
  ((((Below.refl _ w).grown hgrow (Nat.le_refl _) (by simp)).alloc (by omega) _).alloc (by simp; omega) _)
 have hO0 := (hown.alloc (.cells #[.slice (some ⟨w.heap.size, 0, none⟩) 0 zs.length] 41)).alloc (.cells #[.slice A zs.length c] 41)
 have hsz : ((w1.alloc (.cells #[.slice (some ⟨w.heap.size, 0, none⟩) 0 zs.length] 41)).alloc (.cells #[.slice A zs.length c] 41)).heap.size = w1.heap.size + 2 := by simp
 simp only [World.size_alloc] at bN ⊢
 generalize ((w1.alloc (.cells #[.slice (some ⟨w.heap.size, 0, none⟩) 0 zs.length] 41)).alloc (.cells #[.slice A zs.length c] 41)) = W0 at *
 have HO := Lib.hid hO0
 have HB0 := Lib.hid hB0
 have hrow := HV.out.row
 have HS : Hid (Law.Seq W0 0 w.heap.size A (flatE zs)) := (Law.Seq.own hrow).below hB0
 clear hown hgrow c1' hO0 hB0 c1 hrow
 gi_wp2
 refine wpIn_rangeFunc_ownH hro h1 (gf := 129) (lb := #[.pointer (some ⟨w1.heap.size + 1, 0, none⟩)]) rfl (hF _) (enters_of Tryz.func129 (by kernel_rfl) rfl)
  (all_stops Fence.wide (n - 1) hF hro (by omega) (w1.heap.size + 1) w.heap.size c A zs hl W0 (by omega) (by omega) bN.cell HS.out) belowK_t (belowK_b (by omega)) (Below.refl _ _) (fun _ => rfl)
  (fun pre W => (∃ v, Boxed W w1.heap.size 41 v ∧ W.ownsRow w.heap.size 63 8 v pre.length (flatE pre) ∧ True) ∧ Below w.heap.size w W)
  (fun _ _ _ => False)
  (OwnFrom.and (Own.from (holdsRow_own w.heap.size w1.heap.size 41 63 8 (fun pre : List Ev => pre.length) (fun pre => flatE pre) (fun _ _ => True)) _) (ownFrom_below (Nat.le_refl _) (by omega)))
  (fun _ _ _ _ _ hs _ _ => hs)
  ⟨⟨_, bO, HO.out, trivial⟩, HB0.out⟩
  (fun x a' W => ∃ Bx, w1.heap.size < Bx ∧ Law.Is W Bx 63 x.box ∧ a' = { tmps := #[.pointer (some ⟨b, 0, none⟩), undef, .slice none 0 0, .bool false, .pointer (some ⟨w1.heap.size, 0, none⟩), .pointer (some ⟨Bx, 0, none⟩), undef, .pointer (some ⟨b, 0, none⟩), .pointer (some ⟨b, 0, none⟩), .pointer (some ⟨b, 1, none⟩), .slice A zs.length c, .int .i64 (zs.length : Int), .slice (some ⟨w.heap.size, 0, none⟩) 0 zs.length, .pointer (some ⟨b, 0, none⟩), .func (.func 129) #[] #[.pointer (some ⟨w1.heap.size + 1, 0, none⟩)], x.val, undef, undef, undef, undef, undef, undef, undef, undef, undef, undef, undef, undef, undef, undef, undef, undef], defers := [] })
  (fun x a' _ X Y row hs hg hr => by obtain ⟨Bx, h1, h3, h4⟩ := hs; exact ⟨Bx, h1, own_is (fun (_ : Unit) => x.box) () X Y row h3 hg hr, h4⟩)
  ?assign ?body ?done ?stop
 case assign =>
  rintro l pre ⟨x0, x1, x2, x3, x4, x5, x6, x7⟩ W K ⟨⟨v, hv, hrow, _⟩, hB⟩ hK
  have hbW := hB.size
  have hlW := hv.lt
  gi_wp2
  exact hK _ _ ((KeepsOthers.alloc _ _).from _) ((Below.refl _ W).alloc (by omega) _) ⟨⟨v, hv.alloc _, hrow.alloc _, trivial⟩, hB.alloc (by omega) _⟩ ⟨W.heap.size, hlW, Law.Is.new W _ _ rfl, rfl⟩
 case body =>
  rintro l pre ⟨x0, x1, x2, x3, x4, x5, x6, x7⟩ a' W hl ⟨r, hr⟩ ⟨⟨v, hv, hrow, _⟩, hB⟩ ⟨Bx, hBx, iX, rfl⟩ hlt
  have hc := hv.cell
  have lX := iX.lt
  obtain ⟨q0, q1, q2, q3, q4, q5, q6, q7⟩ := Evs.of iX
  simp only [Nat.zero_add] at q0 q1 q2 q3 q4 q5 q6 q7
  have hbW := hB.size
  gi_wp2_with (gi_at_builtin; refine wpListIn_append_own _ rfl _ _ 41 rfl w.heap.size 63 i0 (.agg #[.string ⟨#[]⟩, .int .i64 0, .int .i64 0, .int .i64 0, .int .i64 0, .int .i64 0, .int .i64 0, .int .u64 0]) 8 72 HE.out.ut HE.out.info HE.out.zero HE.out.sz HE.out.by_ HE.out.cells HE.out.pos _ _ _ rfl (hrow.alloc _) ⟨W.heap.size, 0, none⟩ 1 1 (cellsE ⟨x0, x1, x2, x3, x4, x5, x6, x7⟩) rfl rfl (new_E _ ⟨x0, x1, x2, x3, x4, x5, x6, x7⟩ _ rfl) (one_E _) (by unfold maxLen; omega) (by omega) (by simp; omega) ?_; intro v' w2 hown' hgrow _; obtain ⟨g', cap', rfl⟩ := ownsRow_succ hown'; obtain ⟨hv1, hv2, hr2, hk2, hb2⟩ := hv.appended (by decide) hrow hB.size (by omega) hown' hgrow; have hc1 := hv1.cell; have hf1 := hv1.frozen)
  exact ⟨hk2.from _, hb2, ⟨_, hv2, by rw [Law.flatE_snoc]; simpa using hr2, trivial⟩, hB.trans hb2⟩
 case done =>
  rintro D ys W hD rfl ⟨⟨v, hv, hrow, _⟩, hB⟩ hK
  have hc := hv.cell
  have hbW := hB.size
  obtain ⟨Av, cv, rfl, hcv⟩ := Law.own_shape hrow
  have RV := Lib.hid (HV.out.below hB)
  have lb := RV.out.box.lt
  have hne : b ≠ w1.heap.size := by omega
  have c2 := RV.out.box.cell 2
  have f1 := RV.out.box.frozen 1
  have f2 := RV.out.box.frozen 2
  have c1 := RV.out.box.cell 1
  simp only [List.getElem?_toArray, List.getElem?_cons_zero, List.getElem?_cons_succ] at c1 c2
  gi_wp2
  have hK' : ((W.setCell ⟨b, 1, none⟩ (.slice none 0 0)).setCell ⟨b, 2, none⟩ (.bool false)).heap[D]? = some (.deferred (some [])) := ((KeepsOthers.setCell W _ _).trans (KeepsOthers.setCell _ _ _)).same D _ hK rfl
  refine ⟨by simp, .inl ⟨_, _, rfl, run_takeDeferred hK', ?_⟩⟩
  refine ⟨_, results_tmp2 rfl _ _ _, Av, cv, rfl, hcv, ?_⟩
  have t1 : Law.Touch W ((W.setCell ⟨b, 1, none⟩ (.slice none 0 0)).setCell ⟨b, 2, none⟩ (.bool false)) (fun k => k = b) := (Law.Touch.store (T := fun k => k = b) W ⟨b, 1, none⟩ _ rfl).trans (Law.Touch.store (T := fun k => k = b) _ ⟨b, 2, none⟩ _ rfl) (fun k hk => .inl hk)
  have t2 := Law.Touch.putObj ((W.setCell ⟨b, 1, none⟩ (.slice none 0 0)).setCell ⟨b, 2, none⟩ (.bool false)) D (.deferred none)
  have o1 := t1.own hrow (fun g hg e => by have := (hrow.lt g hg).1; omega)
  exact ⟨Law.Seq.own (ownsRow_putObj o1 _ hK' rfl), RV.out.emptied.touch t2 (fun k hk e => by have := (HV.out.ok k hk).2; omega),
   ((Law.Touch.of_below hB _).trans t1 (fun k hk => .inl hk)).trans t2 (fun k hk => .inr (by omega))⟩
 case stop =>
  rintro D c pre W _ _ h _
  exact h.elim
theorem drain {w : World} {base : Nat} {S : Nat → Prop} {b room : Nat} {zs : List Ev} {lost : Bool} (h : At w base S b room zs lost) (hl : zs.length ≤ 1000) :
  Calls Tryz.prog 98 #[.pointer (some ⟨b, 0, none⟩)] w (Drained w base S b room zs lost) :=
 (callsIn_wide (n := 4)).1 (drain_in 4 (Nat.le_refl _) w base S b room zs lost h hl)
end RingE
end Go.Proofs.YtohdlnefgieenaaGreat
