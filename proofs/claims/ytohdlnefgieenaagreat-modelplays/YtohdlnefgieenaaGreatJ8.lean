/-
  What the small calls of layer 6 come to: within, Right, Late; of and beyond (functions that tell a session), where, copied.
-/
import Derived.Test.YtohdlnefgieenaaGreatJ7
import Derived.WalkKit
import Derived.Lib.AppendZeros
import Derived.RangeFuncBox
import Derived.Deep.RegionHeld3
import Derived.Deep.DeepCutAuto
namespace Go.Proofs.YtohdlnefgieenaaGreat
open Go.RowKit
namespace Sess
open Go.Law
set_option maxHeartbeats 400000 in
theorem within (n a b : Int) (r : Bool) (hr : (decide (a ≤ n) && decide (n ≤ b)) = r) (w : World) :
  Calls Tryz.prog 110 #[.int .i64 n, .int .i64 a, .int .i64 b] w fun e w' => e = .returned (.bool r) ∧ w = w' := by
 subst hr
 cases h1 : decide (a ≤ n) <;>
 ·go_enter Tryz.func110, Tryz.ntmps110
  go_wp2
  go_ret
  exact ⟨by simp, rfl⟩

set_option maxHeartbeats 400000 in
theorem of_ (k : Int) (w : World) :
  Calls Tryz.prog 125 #[.int .i64 k] w fun e w' => e = .returned (.func (.func 137) #[] #[.pointer (some ⟨w.heap.size, 0, none⟩)]) ∧ w.alloc (.cells #[.int .i64 k] 3) = w' := by
 go_enter Tryz.func125, Tryz.ntmps125
 go_wp2
 go_ret
 exact ⟨rfl, rfl⟩

set_option maxHeartbeats 400000 in
theorem beyond (k : Int) (w : World) :
  Calls Tryz.prog 127 #[.int .i64 k] w fun e w' => e = .returned (.func (.func 140) #[] #[.pointer (some ⟨w.heap.size, 0, none⟩)]) ∧ w.alloc (.cells #[.int .i64 k] 3) = w' := by
 go_enter Tryz.func127, Tryz.ntmps127
 go_wp2
 go_ret
 exact ⟨rfl, rfl⟩

set_option maxHeartbeats 800000 in
theorem of1 (q : Sn) (k : Int) (p : Nat) (w : World) (hp : w.cell? ⟨p, 0, none⟩ = some (.int .i64 k)) :
  Calls Tryz.prog 137 #[V q, .pointer (some ⟨p, 0, none⟩)] w fun e w' => e = .returned (.bool (q.1 == k)) ∧ Below w.heap.size w w' := by
 have lp := World.block_lt_of_cell? w ⟨p, 0, none⟩ hp
 obtain ⟨a, b, c, d⟩ := q
 unfold V
 go_enter Tryz.func137, Tryz.ntmps137
 go_wp2
 go_ret
 exact ⟨rfl, (Below.refl _ _).alloc (Nat.le_refl _) _⟩

set_option maxHeartbeats 800000 in
theorem beyond1 (q : Sn) (k : Int) (p : Nat) (w : World) (hp : w.cell? ⟨p, 0, none⟩ = some (.int .i64 k)) :
  Calls Tryz.prog 140 #[V q, .pointer (some ⟨p, 0, none⟩)] w fun e w' => e = .returned (.bool (decide (k < q.1))) ∧ Below w.heap.size w w' := by
 have lp := World.block_lt_of_cell? w ⟨p, 0, none⟩ hp
 obtain ⟨a, b, c, d⟩ := q
 unfold V
 go_enter Tryz.func140, Tryz.ntmps140
 go_wp2
 go_ret
 exact ⟨rfl, (Below.refl _ _).alloc (Nat.le_refl _) _⟩

set_option maxRecDepth 100000 in
set_option maxHeartbeats 1600000 in
theorem where_ (f : FuncId) (caps : Array Value) (eg : ∀ args w, (callFunc f args).run Tryz.prog w = .ok (.enter f args) w) (tst : Sn → Bool) (zs : List Sn) (A : Option Addr) (c : Nat) (w : World) (hs : Seq w 0 w.heap.size A (flatS zs)) (hl : zs.length ≤ maxLen)
  (hf : ∀ q w', Below w.heap.size w w' → Calls Tryz.prog f (#[V q] ++ caps) w' fun e w'' => e = .returned (.bool (tst q)) ∧ Below w'.heap.size w' w'') :
  Calls Tryz.prog 124 #[.slice A zs.length c, .func (.func f) #[] caps] w fun e w' => e = .returned (.int .i64 ((zs.findIdx tst : Nat) : Int)) ∧ Below w.heap.size w w' := by
 have HS := Lib.hid hs
 have HF := Lib.hid hf
 unfold maxLen at hl
 clear hs hf
 go_enter Tryz.func124, Tryz.ntmps124
 go_wp2_with fail
 go_loopw [9] (fun i wr => ∃ j : Nat, j ≤ zs.length ∧ i = .int .i64 j ∧ (∀ q ∈ zs.take j, tst q = false) ∧ Below w.heap.size w wr) (fun i _ => zs.length - (intOf i).toNat)
 case atStart => exact ⟨0, Nat.zero_le _, rfl, by simp, Below.refl _ _⟩
 case round =>
  obtain ⟨j, hj, rfl, hno, hB⟩ := hrel
  have HB := Lib.hid hB
  have sb := hB.size
  have HNo := Lib.hid hno
  clear hB hno
  by_cases hlt : j < zs.length
  ·obtain ⟨b, off, rfl, _, hb, q0, q1, q2, q3⟩ := (HS.out.below HB.out).ses hlt
   have HT := Lib.hid (List.take_succ_eq_append_getElem hlt)
   have HG : Hid (zs[j]? = some zs[j]) := List.getElem?_eq_getElem hlt
   have HFI : Hid (tst zs[j] = true → zs.findIdx tst = j) := fun h => by
    rw [List.findIdx_eq hlt]
    refine ⟨h, fun i hi => HNo.out _ ?_⟩
    exact List.mem_take_iff_getElem.2 ⟨i, by omega, by simp⟩
   generalize hq : zs[j] = q at *
   obtain ⟨x0, x1, x2, x3⟩ := q
   simp only at q0 q1 q2 q3
   have lb : b < wr.heap.size := by omega
   go_wp2_with fail
   refine (HF.out (x0, x1, x2, x3) _ (HB.out.alloc sb _)).mono ?_
   rintro e w2 ⟨rfl, b2⟩
   have B2 := Lib.hid ((HB.out.alloc sb _).trans (b2.mono (by simp; omega)))
   clear b2
   cases hx : tst (x0, x1, x2, x3) with
   | true =>
     rw [hx] at HFI
     have HI := Lib.hid (HFI.out rfl)
     clear HFI
     go_wp2_with fail
     go_ret
     exact ⟨by rw [HI.out]; rfl, B2.out⟩
   | false =>
     clear HFI
     go_wp2_with fail
     go_roundw
     case rel => exact ⟨j + 1, by omega, by go_num, fun q hq' => by rw [HT.out] at hq'; rcases List.mem_append.1 hq' with h | h; exact HNo.out q h; simp at h; subst h; exact hx, B2.out⟩
     case measure => simp [intOf]; omega
  ·have HI : Hid (zs.findIdx tst = zs.length) := by
    refine List.findIdx_eq_length.2 fun q hq => HNo.out q ?_
    rw [List.take_of_length_le (by omega)]; exact hq
   go_wp2_with fail
   go_ret
   exact ⟨by rw [HI.out]; rfl, HB.out⟩

theorem whereOf (k : Int) (p : Nat) (zs : List Sn) (A : Option Addr) (c : Nat) (w : World) (hp : w.cell? ⟨p, 0, none⟩ = some (.int .i64 k)) (hs : Seq w 0 w.heap.size A (flatS zs)) (hl : zs.length ≤ maxLen) :
  Calls Tryz.prog 124 #[.slice A zs.length c, .func (.func 137) #[] #[.pointer (some ⟨p, 0, none⟩)]] w fun e w' => e = .returned (.int .i64 ((atS k zs : Nat) : Int)) ∧ Below w.heap.size w w' :=
 where_ 137 _ (enters_of Tryz.func137 (by kernel_rfl) rfl) (fun q => q.1 == k) zs A c w hs hl fun q w' hb => of1 q k p w' ((hb.cell (p := ⟨p, 0, none⟩) (World.block_lt_of_cell? w ⟨p, 0, none⟩ hp)).trans hp)
theorem wherePast (k : Int) (p : Nat) (zs : List Sn) (A : Option Addr) (c : Nat) (w : World) (hp : w.cell? ⟨p, 0, none⟩ = some (.int .i64 k)) (hs : Seq w 0 w.heap.size A (flatS zs)) (hl : zs.length ≤ maxLen) :
  Calls Tryz.prog 124 #[.slice A zs.length c, .func (.func 140) #[] #[.pointer (some ⟨p, 0, none⟩)]] w fun e w' => e = .returned (.int .i64 ((pastS k zs : Nat) : Int)) ∧ Below w.heap.size w w' :=
 where_ 140 _ (enters_of Tryz.func140 (by kernel_rfl) rfl) (fun q => decide (k < q.1)) zs A c w hs hl fun q w' hb => beyond1 q k p w' ((hb.cell (p := ⟨p, 0, none⟩) (World.block_lt_of_cell? w ⟨p, 0, none⟩ hp)).trans hp)

set_option maxHeartbeats 800000 in
theorem right (a b c : Int) (w : World) :
  Calls Tryz.prog 94 #[.int .i64 a, .int .i64 b, .int .i64 c] w fun e w' => e = .returned (.bool (decide (0 ≤ a) && decide (a ≤ 255) && (decide (1 ≤ b) && decide (b ≤ 9)) && (decide (0 ≤ c) && decide (c ≤ 9)))) ∧ w = w' := by
 cases h1 : decide (0 ≤ a) && decide (a ≤ 255) with
 | false =>
   go_enter Tryz.func94, Tryz.ntmps94
   go_wp2_with fail
   refine (within a 0 255 false h1 _).mono ?_
   rintro e w1 ⟨rfl, rfl⟩
   go_wp2_with fail
   go_ret
   exact ⟨rfl, rfl⟩
 | true =>
   cases h2 : decide (1 ≤ b) && decide (b ≤ 9) with
   | false =>
     go_enter Tryz.func94, Tryz.ntmps94
     go_wp2_with fail
     refine (within a 0 255 true h1 _).mono ?_
     rintro e w1 ⟨rfl, rfl⟩
     go_wp2_with fail
     refine (within b 1 9 false h2 _).mono ?_
     rintro e w1 ⟨rfl, rfl⟩
     go_wp2_with fail
     go_ret
     exact ⟨rfl, rfl⟩
   | true =>
     go_enter Tryz.func94, Tryz.ntmps94
     go_wp2_with fail
     refine (within a 0 255 true h1 _).mono ?_
     rintro e w1 ⟨rfl, rfl⟩
     go_wp2_with fail
     refine (within b 1 9 true h2 _).mono ?_
     rintro e w1 ⟨rfl, rfl⟩
     go_wp2_with fail
     refine (within c 0 9 _ rfl _).mono ?_
     rintro e w1 ⟨rfl, rfl⟩
     go_wp2_with fail
     go_ret
     exact ⟨rfl, rfl⟩

set_option maxRecDepth 100000 in
set_option maxHeartbeats 1600000 in
theorem copied (zs : List Sn) (A : Option Addr) (c : Nat) (w : World) (hs : Seq w 0 w.heap.size A (flatS zs)) (hl : zs.length ≤ 1000) :
  Calls Tryz.prog 123 #[.slice A zs.length c] w fun e w' => e = .returned (.slice (some ⟨w.heap.size, 0, none⟩) zs.length zs.length) ∧ Is w' w.heap.size 138 (flatS zs).toArray ∧ Below w.heap.size w w' := by
 obtain ⟨i0, hE⟩ := elem
 have HE := Lib.hid hE
 have HS := Lib.hid hs
 clear hE hs
 go_enter Tryz.func123, Tryz.ntmps123
 go_wp2_with (at_make; refine wpList_make_full _ rfl _ _ 105 rfl w.heap.size 138 i0 (.agg #[.int .i64 0, .int .i64 0, .int .i64 0, .int .u64 0]) 4 HE.out.ut HE.out.info HE.out.zero HE.out.sz .i64 .i64 (zs.length : Int) (zs.length : Int) zs.length rfl rfl rfl rfl (by rw [HE.out.by_]; omega) (by unfold maxLen; omega) (Nat.le_refl _) ?_)
 intro w1 hown hgrow
 obtain ⟨cur, hcur, hsz⟩ : ∃ cur : Array Value, Is w1 w.heap.size 138 cur ∧ cur.size = zs.length * 4 := by
  rcases hown.2 with ⟨h0, _⟩ | ⟨g, cap, cur, h0, _, hh, _, _, hs, _⟩
  ·simp at h0
  ·injection h0 with h1 h2 h3
   injection h1 with h1
   injection h1 with h1
   subst h1 h3
   exact ⟨cur, hh, hs⟩
 have B1 : Below w.heap.size w w1 := (Below.refl _ w).grown hgrow (Nat.le_refl _) (by simp)
 have HC : Hid (Is w1 w.heap.size 138 cur.toList.toArray) := hcur
 have HZ : Hid (cur.toList.length = zs.length * 4) := by show _ = _; rw [Array.length_toList, hsz]
 have HB := Lib.hid B1
 have HS1 := Lib.hid (HS.out.below B1)
 have HI : Hid ((Tryz.prog.info? 138).map (·.size) = some 4) := by show _ = _; rw [HE.out.info, Option.map_some, HE.out.sz]
 clear hown hgrow hcur hsz B1 HS
 go_wp2_with (refine Law.wpList_copy_any _ rfl (.tmp 7) (.tmp 8) (size := 4) (cs := flatS zs) rfl rfl rfl HE.out.ut HI.out HC.out (by rw [flatS_length]; exact congrArg (· * 4) (Nat.min_self _).symm) HS1.out (by rw [flatS_length, HZ.out]; omega) (flatS_one _) ?_)
 intro w2 hi2 ht2
 have B2 := Lib.hid (ht2.below HB.out (Nat.le_refl _))
 rw [Law.splice_all _ _ (by rw [HZ.out, flatS_length])] at hi2
 have H2 := Lib.hid hi2
 clear hi2 ht2
 go_wp2_with fail
 go_ret
 exact ⟨rfl, H2.out, B2.out⟩
end Sess
end Go.Proofs.YtohdlnefgieenaaGreat
namespace Go.Law
open Go.RowKit
theorem inserted {cur : List Value} {zs : List Sn} {s : Sn} {i : Nat} (hi : i < zs.length) (ht : cur.take (i * 4) = flatS (zs.take i)) :
  (splice (splice cur (i * 4) (cellsS s)) ((i + 1) * 4) (flatS (zs.drop i))).take ((zs.length + 1) * 4) = flatS (zs.take i ++ s :: zs.drop i) := by
 have hc : (cellsS s).length = 4 := rfl
 have hf : (flatS (zs.take i)).length = i * 4 := by rw [flatS_length, List.length_take]; omega
 have hd : (flatS (zs.drop i)).length = (zs.length - i) * 4 := by rw [flatS_length, List.length_drop]
 have e1 : splice cur (i * 4) (cellsS s) = (flatS (zs.take i) ++ cellsS s) ++ cur.drop (i * 4 + 4) := by unfold splice; rw [ht, hc, List.append_assoc]
 have e2 : (splice cur (i * 4) (cellsS s)).take ((i + 1) * 4) = flatS (zs.take i) ++ cellsS s := by
  rw [e1, List.take_append_of_le_length (by rw [List.length_append, hf, hc]; omega), List.take_of_length_le (by rw [List.length_append, hf, hc]; omega)]
 rw [splice, e2, ← List.append_assoc, List.take_append_of_le_length (by simp only [List.length_append, hf, hc, hd]; omega), List.take_of_length_le (by simp only [List.length_append, hf, hc, hd]; omega), flatS_app, List.append_assoc]
 rfl
theorem deleted {zs : List Sn} {i r : Nat} (z : List Value) (hl : zs.length = i + 1 + r) :
  (splice (splice (flatS zs) (i * 4) (flatS (zs.drop (i + 1)))) ((i + r) * 4) z).take ((i + r) * 4) = flatS (zs.take i ++ zs.drop (i + 1)) := by
 have hf : (flatS (zs.take i)).length = i * 4 := by rw [flatS_length, List.length_take]; omega
 have hd : (flatS (zs.drop (i + 1))).length = r * 4 := by rw [flatS_length, List.length_drop]; omega
 have e1 : (splice (flatS zs) (i * 4) (flatS (zs.drop (i + 1)))).take ((i + r) * 4) = flatS (zs.take i) ++ flatS (zs.drop (i + 1)) := by
  unfold splice
  rw [← flatS_take, ← List.append_assoc, List.take_append_of_le_length (by rw [List.length_append, hf, hd]; omega), List.take_of_length_le (by rw [List.length_append, hf, hd]; omega)]
 rw [splice, e1, List.take_append_of_le_length (by rw [List.length_append, hf, hd]; omega), List.take_of_length_le (by rw [List.length_append, hf, hd]; omega), flatS_app]
end Go.Law
namespace Go.Proofs.YtohdlnefgieenaaGreat
open Go.RowKit
namespace Sess
open Go.Law

set_option maxRecDepth 100000 in
set_option maxHeartbeats 1600000 in
theorem insertEnd (zs : List Sn) (s : Sn) (g p : Nat) (w : World) (hg : Is w g 138 (flatS zs).toArray) (hp : Is w p 138 (cellsS s).toArray) (hl : zs.length ≤ 1000) :
  Calls Tryz.prog 126 #[.slice (some ⟨g, 0, none⟩) zs.length zs.length, .int .i64 (zs.length : Int), .slice (some ⟨p, 0, none⟩) 1 1] w (Listed w w.heap.size (zs ++ [s])) := by
 obtain ⟨i0, hE⟩ := elem
 have hc4 : (cellsS s).length = 4 := rfl
 obtain ⟨W1, G, hr, hR, b1⟩ : ∃ (W1 : World) (G : Nat), (∀ ty, (Builtin.append_ #[105, 105] ty #[.slice (some ⟨g, 0, none⟩) zs.length zs.length, .slice (some ⟨p, 0, none⟩) 1 1]).run Tryz.prog w = .ok (.slice (some ⟨w.heap.size, 0, none⟩) (zs.length + 1) G) W1) ∧
   W1.ownsRow w.heap.size 138 4 (.slice (some ⟨w.heap.size, 0, none⟩) (zs ++ [s]).length G) (zs ++ [s]).length (flatS (zs ++ [s])) ∧ Below w.heap.size w W1 := by
  have hge := grownCap_ge w (zs.length + 1) zs.length 138
  refine ⟨_, _, fun ty => run_append_grow (P := Tryz.prog) w 105 ty 138 i0 _ hE.ut hE.info hE.zero ⟨g, 0, none⟩ zs.length zs.length (flatS zs) (by rw [hE.sz, flatS_length]) (hg.seqS.adds rfl) ⟨p, 0, none⟩ 1 1 (cellsS s) (by rw [hE.sz]; rfl) (hp.seqS.adds rfl) (by omega) (by omega) (by rw [hE.by_]; exact growslice_fits (by omega) (by omega)), ?_, (Below.refl _ w).drew.alloc (Nat.le_refl _) _⟩
  refine row_of (cur := ((flatS zs).toArray ++ (cellsS s).toArray ++ Builtin.zeroCells (Value.agg #[.int .i64 0, .int .i64 0, .int .i64 0, .int .u64 0]).cells (grownCap w (zs.length + 1) zs.length 138 - (zs.length + 1))).toList) (heap_alloc_new w.drew _) (Nat.le_refl _) (by simpa using hge) (grownCap_le_maxLen _ _ _ _ (by unfold maxLen; omega)) ?_ ?_
  ·rw [Array.length_toList, Array.size_append, Array.size_append, size_zeroCells, List.size_toArray, List.size_toArray, flatS_length, hc4]
   generalize grownCap w (zs.length + 1) zs.length 138 = G at *
   simp [Value.cells]
   omega
  ·simp only [Array.toList_append, List.length_append, List.length_cons, List.length_nil]
   rw [List.take_append_of_le_length (by simp [flatS_length, hc4]; omega), List.take_of_length_le (by simp [flatS_length, hc4]; omega), flatS_snoc]
 have HR := Lib.hid hR
 have HB := Lib.hid b1
 clear hE hg hp hR b1
 go_enter Tryz.func126, Tryz.ntmps126
 go_wp2_with (at_builtin; refine Lib.wpList_append_run _ rfl _ _ _ _ rfl _ _ rfl rfl _ _ (hr _) ?_)
 go_ret
 exact ⟨some ⟨w.heap.size, 0, none⟩, G, by simp, HR.out, HB.out⟩

set_option maxRecDepth 100000 in
set_option maxHeartbeats 1600000 in
theorem insertIn (zs : List Sn) (s : Sn) (i g p : Nat) (w : World) (hg : Is w g 138 (flatS zs).toArray) (hp : Is w p 138 (cellsS s).toArray) (hl : zs.length ≤ 1000) (hi : i < zs.length) :
  Calls Tryz.prog 126 #[.slice (some ⟨g, 0, none⟩) zs.length zs.length, .int .i64 (i : Int), .slice (some ⟨p, 0, none⟩) 1 1] w (Listed w w.heap.size (zs.take i ++ s :: zs.drop i)) := by
 obtain ⟨i0, hE⟩ := elem
 have HE := Lib.hid hE
 have HG := Lib.hid hg
 have HP := Lib.hid hp
 have lg := hg.lt
 have lp := hp.lt
 have hold : (Builtin.firstCells i0.size i (.slice (some ⟨g, 0, none⟩) i zs.length)).run Tryz.prog w.drew = .ok (flatS (zs.take i)).toArray w.drew := by
  rw [hE.sz]
  refine run_firstCells_some w.drew 4 i ⟨g, 0, none⟩ i zs.length (flatS (zs.take i)) (by rw [flatS_length, List.length_take]; omega) (fun j v hj => ?_)
  have h1 : Seq w.drew g (g + 1) (some ⟨g, 0, none⟩) (flatS zs) := hg.drew.seqS
  refine h1.adds rfl j v ?_
  rw [flatS_take, List.getElem?_take] at hj
  split at hj
  ·exact hj
  ·cases hj
 have hik : i + (zs.length + 1 - i) = zs.length + 1 := by omega
 have hkk : (zs.length : Int) + 1 - (i : Int) = ((zs.length + 1 - i : Nat) : Int) := by omega
 have hrz : ∀ ty, (Builtin.append_ #[105, 3] ty #[.slice (some ⟨g, 0, none⟩) i zs.length, .int .i64 ((zs.length : Int) + 1 - (i : Int))]).run Tryz.prog w =
   .ok (.slice (some ⟨w.heap.size, 0, none⟩) (zs.length + 1) (grownCap w (zs.length + 1) zs.length 138)) (w.drew.alloc (.cells ((flatS (zs.take i)).toArray ++ Builtin.zeroCells (Value.agg #[.int .i64 0, .int .i64 0, .int .i64 0, .int .u64 0]).cells (zs.length + 1 - i) ++ Builtin.zeroCells (Value.agg #[.int .i64 0, .int .i64 0, .int .i64 0, .int .u64 0]).cells (grownCap w (zs.length + 1) zs.length 138 - (zs.length + 1))) 138)) := fun ty => by
  have h := Lib.run_append_grow_zeros w 105 3 ty 138 i0 _ .i64 .i64 HE.out.ut Tryz.underlying3 HE.out.info HE.out.zero (some ⟨g, 0, none⟩) i zs.length (flatS (zs.take i)) hold (zs.length + 1 - i) (by omega) (by rw [HE.out.sz]; omega) (by omega) (by omega) (by rw [HE.out.by_]; omega) (by rw [HE.out.by_, hik]; exact growslice_fits (by omega) (by omega))
  rw [hik] at h
  rw [hkk]
  exact h
 obtain ⟨W1, G, cur, hrz', hgc, hcm, h1, hcl, hct, b1⟩ : ∃ (W1 : World) (G : Nat) (cur : List Value), (∀ ty, (Builtin.append_ #[105, 3] ty #[.slice (some ⟨g, 0, none⟩) i zs.length, .int .i64 ((zs.length : Int) + 1 - (i : Int))]).run Tryz.prog w = .ok (.slice (some ⟨w.heap.size, 0, none⟩) (zs.length + 1) G) W1) ∧
   zs.length + 1 ≤ G ∧ G ≤ maxLen ∧ Is W1 w.heap.size 138 cur.toArray ∧ cur.length = G * 4 ∧ cur.take (i * 4) = flatS (zs.take i) ∧ Below w.heap.size w W1 := by
  have hge := grownCap_ge w (zs.length + 1) zs.length 138
  refine ⟨_, _, ((flatS (zs.take i)).toArray ++ Builtin.zeroCells (Value.agg #[.int .i64 0, .int .i64 0, .int .i64 0, .int .u64 0]).cells (zs.length + 1 - i) ++ Builtin.zeroCells (Value.agg #[.int .i64 0, .int .i64 0, .int .i64 0, .int .u64 0]).cells (grownCap w (zs.length + 1) zs.length 138 - (zs.length + 1))).toList, hrz, hge, grownCap_le_maxLen _ _ _ _ (by unfold maxLen; omega), heap_alloc_new w.drew _, ?_, ?_, (Below.refl _ w).drew.alloc (Nat.le_refl _) _⟩
  ·rw [Array.length_toList, Array.size_append, Array.size_append, size_zeroCells, size_zeroCells, List.size_toArray, flatS_length, List.length_take]
   generalize grownCap w (zs.length + 1) zs.length 138 = G at *
   simp [Value.cells]
   omega
  ·simp only [Array.toList_append, List.append_assoc]
   rw [List.take_append_of_le_length (by simp [flatS_length]; omega), List.take_of_length_le (by simp [flatS_length]; omega)]
 clear hrz hold hik hkk hg hp hE
 have H1 := Lib.hid h1
 have HCL := Lib.hid hcl
 have HCT := Lib.hid hct
 have HB1 := Lib.hid b1
 have sb1 := b1.size
 have hGi : ¬ (G = i) := by omega
 have hGi2 : ¬ (G = i + 1) := by omega
 have hci : ¬ (zs.length = i) := by omega
 have hin : i ≤ zs.length := by omega
 unfold maxLen at hcm
 clear h1 hcl hct b1
 go_enter Tryz.func126, Tryz.ntmps126
 have HI : Hid ((Tryz.prog.info? 138).map (·.size) = some 4) := by show _ = _; rw [HE.out.info, Option.map_some, HE.out.sz]
 have P1 := Lib.hid ((HP.out.below HB1.out lp).seqS)
 have L1 : Hid (i * 4 + (cellsS s).length ≤ cur.length) := by show _ ≤ _; rw [HCL.out]; simp [cellsS]; omega
 go_wp2_with (first
  | (at_builtin; refine Lib.wpList_append_run _ rfl _ _ _ _ rfl _ _ rfl rfl _ _ (hrz' _) ?_)
  | (refine Law.wpList_copy_any _ rfl (.tmp 43) (.tmp 44) (size := 4) (cs := cellsS s) (o := i * 4) rfl rfl rfl HE.out.ut HI.out H1.out ?_ P1.out L1.out (four_one _) ?_))
 ·simp only [cellsS, List.length_cons, List.length_nil, Nat.min_def]; rw [if_pos (by omega)]
 intro w2 hi2 ht2
 have HB2 := Lib.hid (ht2.below HB1.out (Nat.le_refl _))
 have H2 := Lib.hid hi2
 have HG2 := Lib.hid (HG.out.below HB2.out lg)
 have S2 : Hid (Seq w2.drew g (g + 1) (some ⟨g, i * 4, none⟩) (flatS (zs.drop i))) := fun _ =>
  ⟨g, i * 4, rfl, Nat.le_refl _, Nat.lt_succ_self _, fun j u hu => by
   rw [HG2.out.drew.cell, List.getElem?_toArray]
   rwa [flatS_drop, List.getElem?_drop] at hu⟩
 have L2 : Hid ((i + 1) * 4 + (flatS (zs.drop i)).length ≤ (splice cur (i * 4) (cellsS s)).length) := by
  show _ ≤ _
  rw [length_splice _ _ _ L1.out, HCL.out, flatS_length, List.length_drop]; omega
 have N2 : Hid ((flatS (zs.drop i)).length = Nat.min (zs.length - i) (zs.length - i) * 4) := by
  show _ = _
  rw [flatS_length, List.length_drop]; exact congrArg (· * 4) (Nat.min_self _).symm
 have hw1 : IntKind.i64.wrap ((i : Int) + 1) = (i : Int) + 1 := by rw [IntKind.wrap_i64]; omega
 have hb1 : (0 : Int) ≤ (i : Int) + 1 := by omega
 have htn : ((i : Int) + 1).toNat = i + 1 := by omega
 have hb3 : (i : Int) ≤ (zs.length : Int) := by omega
 have sb2 := HB2.out.size
 clear hi2 ht2
 go_wp2_with fail
 go_region_law (refine Law.step_copy_any _ rfl (.tmp 50) (.tmp 53) (size := 4) (cs := flatS (zs.drop i)) (o := (i + 1) * 4) (g := w.heap.size) (dLen := zs.length - i) (dCap := G - (i + 1)) (A := some ⟨g, i * 4, none⟩) (sLen := zs.length - i) (sCap := zs.length - i) rfl (by simp [Act.eval, Act.put]) (by simp [Act.eval, Act.put]) HE.out.ut HI.out H2.out.drew N2.out S2.out L2.out (flatS_one _) ?_; intro w3 hi3 ht3)
 have HB3 := Lib.hid (ht3.below HB2.out.drew (Nat.le_refl _))
 have HR3 : Hid (Row w3 w.heap.size (.slice (some ⟨w.heap.size, 0, none⟩) (zs.take i ++ s :: zs.drop i).length G) (zs.take i ++ s :: zs.drop i)) := by
  have hlen : (zs.take i ++ s :: zs.drop i).length = zs.length + 1 := by simp; omega
  refine row_of hi3 (by omega) (by omega) (by unfold maxLen; omega) ?_ ?_
  ·rw [length_splice _ _ _ L2.out, length_splice _ _ _ L1.out, HCL.out]
  ·rw [hlen]; exact inserted hi HCT.out
 clear hi3 ht3
 go_wp2_with fail
 go_ret
 refine ⟨some ⟨w.heap.size, 0, none⟩, G, ?_, HR3.out, HB3.out⟩
 have hlen : (zs.take i ++ s :: zs.drop i).length = zs.length + 1 := by simp; omega
 rw [hlen]; rfl

theorem insert (zs : List Sn) (s : Sn) (i g p : Nat) (w : World) (hg : Is w g 138 (flatS zs).toArray) (hp : Is w p 138 (cellsS s).toArray) (hl : zs.length ≤ 1000) (hi : i ≤ zs.length) :
  Calls Tryz.prog 126 #[.slice (some ⟨g, 0, none⟩) zs.length zs.length, .int .i64 (i : Int), .slice (some ⟨p, 0, none⟩) 1 1] w (Listed w w.heap.size (zs.take i ++ s :: zs.drop i)) := by
 rcases Nat.lt_or_ge i zs.length with h | h
 ·exact insertIn zs s i g p w hg hp hl h
 ·obtain rfl : i = zs.length := by omega
  rw [List.take_length, List.drop_length]
  exact insertEnd zs s g p w hg hp hl

set_option maxRecDepth 100000 in
set_option maxHeartbeats 1600000 in
theorem delete (zs : List Sn) (i r g base : Nat) (w : World) (hg : Is w g 138 (flatS zs).toArray) (hb : base ≤ g) (hl : zs.length ≤ 1000) (hr : zs.length = i + 1 + r) :
  Calls Tryz.prog 128 #[.slice (some ⟨g, 0, none⟩) (i + 1 + r) (i + 1 + r), .int .i64 (i : Int), .int .i64 ((i : Int) + 1)] w (Listed w base (zs.take i ++ zs.drop (i + 1))) := by
 obtain ⟨i0, hE⟩ := elem
 have HE := Lib.hid hE
 have HG := Lib.hid hg
 have HL := Lib.hid hr
 have lg := hg.lt
 rw [hr] at hl
 have hd : (flatS (zs.drop (i + 1))).length = r * 4 := by rw [flatS_length, List.length_drop]; omega
 have HD := Lib.hid hd
 obtain ⟨A, hA, S2⟩ : ∃ A : Option Addr, (if r = 0 then some (⟨g, 0, none⟩ : Addr) else some ⟨g, (i + 1) * 4, none⟩) = A ∧ Hid (Seq w.drew g (g + 1) A (flatS (zs.drop (i + 1)))) := by
  refine ⟨_, rfl, fun hn => ?_⟩
  have h0 : r ≠ 0 := by intro h; subst h; exact hn (List.eq_nil_of_length_eq_zero (by omega))
  rw [if_neg h0]
  exact ⟨g, (i + 1) * 4, rfl, Nat.le_refl _, Nat.lt_succ_self _, fun j u hu => by
   rw [hg.drew.cell, List.getElem?_toArray]
   rwa [flatS_drop, List.getElem?_drop] at hu⟩
 have hz : ∀ w, (zeroValue 138).run Tryz.prog w = .ok (.agg #[.int .i64 0, .int .i64 0, .int .i64 0, .int .u64 0]) w := fun w => by
  simp [zeroValue, typeInfo, hE.info, hE.zero]
 have HZV := Lib.hid hz
 have hw1 : IntKind.i64.wrap ((i : Int) + 1) = (i : Int) + 1 := by rw [IntKind.wrap_i64]; omega
 have h1r : i + 1 + r - (i + r) = 1 := by omega
 have hb1 : (i : Int) ≤ (i : Int) + 1 + (r : Int) := by omega
 have hb0 : (0 : Int) ≤ (i : Int) + 1 := by omega
 have hb2 : (i : Int) + 1 ≤ (i : Int) + 1 + (r : Int) := by omega
 have hb3 : (i : Int) + (r : Int) ≤ (i : Int) + 1 + (r : Int) := by omega
 have hne : ¬ (i + 1 + r = i + r) := by omega
 have htn : ((i : Int) + 1).toNat = i + 1 := by omega
 clear hE hg hr hd hz
 go_enter Tryz.func128, Tryz.ntmps128
 go_wp2_with fail
 go_region_law (refine Law.step_append_fits _ rfl (.tmp 22) (.tmp 25) rfl HE.out (g := g) (sLen := i) (sCap := i + 1 + r) (A := A) (m := r) (c := r) (news := flatS (zs.drop (i + 1))) (by simp [Act.eval, Act.put]) (by simp [Act.eval, Act.put]) HG.out.drew HD.out S2.out (flatS_one _) (by omega) (by rw [HD.out, flatS_length, HL.out]; omega) ?_; intro w3 hi3 ht3)
 have L3 : Hid ((i * 4 + (flatS (zs.drop (i + 1))).length) ≤ (flatS zs).length) := by show _ ≤ _; rw [HD.out, flatS_length, HL.out]; omega
 have hcl : ∀ ty, (Builtin.clear_ #[105] ty #[.slice (some ⟨g, (i + r) * 4, none⟩) 1 1]).run Tryz.prog w3 = .ok (.tuple #[]) (w3.setRow g (splice (splice (flatS zs) (i * 4) (flatS (zs.drop (i + 1)))) ((i + r) * 4) (Builtin.zeroCells (Value.agg #[.int .i64 0, .int .i64 0, .int .i64 0, .int .u64 0]).cells 1).toList).toArray) := fun ty =>
  Law.clear_any w3 (size := 4) HE.out.ut HZV.out rfl (by decide) (by omega) (by omega) hi3 (by rw [length_splice _ _ _ L3.out, flatS_length, HL.out]; omega)
 have L4 : Hid (((i + r) * 4 + (Builtin.zeroCells (Value.agg #[.int .i64 0, .int .i64 0, .int .i64 0, .int .u64 0]).cells 1).toList.length) ≤ (splice (flatS zs) (i * 4) (flatS (zs.drop (i + 1)))).length) := by
  show _ ≤ _
  rw [length_splice _ _ _ L3.out, flatS_length, HL.out, Array.length_toList, size_zeroCells]; simp [Value.cells]; omega
 generalize (Builtin.zeroCells (Value.agg #[.int .i64 0, .int .i64 0, .int .i64 0, .int .u64 0]).cells 1).toList = z at *
 have H4 : Hid (Is (w3.setRow g (splice (splice (flatS zs) (i * 4) (flatS (zs.drop (i + 1)))) ((i + r) * 4) z).toArray) g 138 (splice (splice (flatS zs) (i * 4) (flatS (zs.drop (i + 1)))) ((i + r) * 4) z).toArray) := setRow_heap w3 g _ _ _ _ hi3
 have B4 := Lib.hid ((Turned.setRow w3 g (splice (splice (flatS zs) (i * 4) (flatS (zs.drop (i + 1)))) ((i + r) * 4) z).toArray).below (ht3.below (Below.refl base w).drew hb) hb)
 have D4 : Hid ((splice (splice (flatS zs) (i * 4) (flatS (zs.drop (i + 1)))) ((i + r) * 4) z).take ((i + r) * 4) = flatS (zs.take i ++ zs.drop (i + 1))) := deleted z HL.out
 have L5 : Hid ((splice (splice (flatS zs) (i * 4) (flatS (zs.drop (i + 1)))) ((i + r) * 4) z).length = (i + 1 + r) * 4) := by
  show _ = _
  rw [length_splice _ _ _ L4.out, length_splice _ _ _ L3.out, flatS_length, HL.out]
 clear hi3 ht3
 generalize splice (splice (flatS zs) (i * 4) (flatS (zs.drop (i + 1)))) ((i + r) * 4) z = cur at *
 generalize w3.setRow g cur.toArray = w4 at *
 have HR : Hid ((zs.take i ++ zs.drop (i + 1)).length = i + r) := by show _ = _; have := HL.out; simp; omega
 go_wp2_with fail
 go_ret
 refine ⟨some ⟨g, 0, none⟩, i + 1 + r, by rw [HR.out]; rfl, row_of H4.out hb (by rw [HR.out]; omega) (by unfold maxLen; omega) L5.out (by rw [HR.out]; exact D4.out), B4.out⟩
theorem deleteAt (zs : List Sn) (i g base : Nat) (w : World) (hg : Is w g 138 (flatS zs).toArray) (hb : base ≤ g) (hl : zs.length ≤ 1000) (hi : i < zs.length) :
  Calls Tryz.prog 128 #[.slice (some ⟨g, 0, none⟩) zs.length zs.length, .int .i64 (i : Int), .int .i64 ((i : Int) + 1)] w (Listed w base (zs.take i ++ zs.drop (i + 1))) := by
 have hr : zs.length = i + 1 + (zs.length - (i + 1)) := by omega
 rw [hr]
 exact delete zs i _ g base w hg hb hl hr
end Sess
end Go.Proofs.YtohdlnefgieenaaGreat
namespace Go.Proofs.YtohdlnefgieenaaGreat
open Go.RowKit
namespace Sess
open Go.Law

set_option maxRecDepth 100000 in
set_option maxHeartbeats 1600000 in
theorem purge (now : Int) (zs : List Sn) (A : Option Addr) (c : Nat) (w : World) (hs : Seq w 0 w.heap.size A (flatS zs)) (hl : zs.length ≤ 900) :
  Calls Tryz.prog 85 #[.slice A zs.length c, .int .u64 now] w (Listed w w.heap.size (live now zs)) := by
 obtain ⟨i0, hE⟩ := elem
 have HE := Lib.hid hE
 have HS := Lib.hid hs
 clear hE hs
 go_enter Tryz.func85, Tryz.ntmps85
 go_wp2_with fail
 go_loopw [5, 10] (fun v i wr => ∃ j : Nat, j ≤ zs.length ∧ i = .int .i64 j ∧ Row wr w.heap.size v (live now (zs.take j)) ∧ Below w.heap.size w wr) (fun _ i _ => zs.length - (intOf i).toNat)
 case atStart => exact ⟨0, Nat.zero_le _, rfl, World.ownsRow_nil _ _ _ _, Below.refl _ _⟩
 case round =>
  obtain ⟨j, hj, rfl, hown, hB⟩ := hrel
  have HO := Lib.hid hown
  have HB := Lib.hid hB
  have hol := live_length now (zs.take j)
  have hol2 : (live now (zs.take j)).length ≤ 900 := by simp at hol; omega
  have sb := hB.size
  clear hown hB hol
  by_cases hlt : j < zs.length
  ·obtain ⟨b, off, rfl, _, hb, q0, q1, q2, q3⟩ := (HS.out.below HB.out).ses hlt
   have HT := Lib.hid (List.take_succ_eq_append_getElem hlt)
   have HT2 : Hid (live now (zs.take (j + 1)) = if now < zs[j].2.2.2 then live now (zs.take j) ++ [zs[j]] else live now (zs.take j)) := by show _ = _; rw [HT.out, live_snoc]
   clear HT
   have lb : b < wr.heap.size := by omega
   generalize live now (zs.take j) = os at *
   generalize hq : zs[j] = q at *
   obtain ⟨x0, x1, x2, x3⟩ := q
   simp only at q0 q1 q2 q3 HT2
   by_cases hk : now < x3
   ·have d1 : decide (x3 ≤ now) = false := by simp; omega
    go_wp2_with (first
     | (go_at_call 107; refine (late _ _ _).mono ?_; rintro e w' ⟨rfl, rfl⟩)
     | (at_builtin; refine wpList_append_own _ rfl _ _ 105 rfl (w.heap.size) 138 i0 (.agg #[.int .i64 0, .int .i64 0, .int .i64 0, .int .u64 0]) 4 32 HE.out.ut HE.out.info HE.out.zero HE.out.sz HE.out.by_ HE.out.cells HE.out.pos _ _ _ rfl ((HO.out.alloc _).alloc _) ⟨wr.heap.size + 1, 0, none⟩ 1 1 (Law.cellsS (x0, x1, x2, x3)) rfl rfl (Law.new_fourAt _ (x0, x1, x2, x3) _ (by simp)) (Law.four_one _) (by unfold maxLen; omega) (by omega) (by simp; omega) ?_))
    intro v' w2 hown2 hgrow _
    have B2 := Lib.hid (((HB.out.alloc sb (.cells #[.int .i64 x0, .int .i64 x1, .int .i64 x2, .int .u64 x3] 138)).alloc (by simp; omega) (.cells #[.int .i64 x0, .int .i64 x1, .int .i64 x2, .int .u64 x3] 138)).grown hgrow (by simp; omega) (fun g hg => (HO.out.lt g hg).1))
    have HO2 : Hid (Row w2 w.heap.size v' (os ++ [(x0, x1, x2, x3)])) := by
     show World.ownsRow _ _ _ _ _ _ _
     rw [flatS_snoc]
     simpa using hown2
    obtain ⟨g', cap', rfl⟩ := ownsRow_succ hown2
    clear hown2 hgrow
    go_wp2_with fail
    go_roundw
    case rel => exact ⟨j + 1, by omega, by go_num, by rw [HT2.out, if_pos hk]; exact HO2.out, B2.out⟩
    case measure => simp [intOf]; omega
   ·have d1 : decide (x3 ≤ now) = true := by simp; omega
    have B2 := Lib.hid (HB.out.alloc sb (.cells #[.int .i64 x0, .int .i64 x1, .int .i64 x2, .int .u64 x3] 138))
    have HO2 := Lib.hid (HO.out.alloc (.cells #[.int .i64 x0, .int .i64 x1, .int .i64 x2, .int .u64 x3] 138))
    go_wp2_with (go_at_call 107; refine (late _ _ _).mono ?_; rintro e w' ⟨rfl, rfl⟩)
    go_roundw
    case rel => exact ⟨j + 1, by omega, by go_num, by rw [HT2.out, if_neg (by omega)]; exact HO2.out, B2.out⟩
    case measure => simp [intOf]; omega
  ·have e1 : zs.take j = zs := List.take_of_length_le (by omega)
   rw [e1] at HO
   obtain ⟨A1, c1, rfl, _⟩ := own_shape HO.out
   go_wp2_with fail
   go_ret
   exact ⟨A1, c1, rfl, HO.out, HB.out⟩

set_option maxRecDepth 100000 in
set_option maxHeartbeats 1600000 in
theorem setOver (s : Sn) (most : Int) (zs : List Sn) (A : Option Addr) (c : Nat) (w : World) (hs : Seq w 0 w.heap.size A (flatS zs)) (hl : zs.length ≤ 900) (hu : Up zs) (hh : hasS s.1 zs = true) :
  Calls Tryz.prog 112 #[.slice A zs.length c, V s, .int .i64 most] w (Listed2 w (put s zs) 0) := by
 have HS := Lib.hid hs
 rw [has_at] at hh
 have hat : atS s.1 zs < zs.length := by simpa using hh
 have HPut := Lib.hid (put_at s hu hat)
 obtain ⟨x0, x1, x2, x3⟩ := s
 simp only at hat HPut
 unfold V
 clear hs hh hu
 have B0 := (Below.refl w.heap.size w).alloc (Nat.le_refl _) (.cells #[.int .i64 x0, .int .i64 x1, .int .i64 x2, .int .u64 x3] 138)
 have I0 : Is (w.alloc (.cells #[.int .i64 x0, .int .i64 x1, .int .i64 x2, .int .u64 x3] 138)) w.heap.size 138 #[.int .i64 x0, .int .i64 x1, .int .i64 x2, .int .u64 x3] := Is.new _ _ _ rfl
 go_enter Tryz.func112, Tryz.ntmps112
 go_wp2_with fail
 generalize w.alloc (.cells #[.int .i64 x0, .int .i64 x1, .int .i64 x2, .int .u64 x3] 138) = w0 at *
 refine (copied zs A c w0 ((HS.out.below B0).more B0.size) (by omega)).mono ?_
 rintro e w1 ⟨rfl, k1, b1⟩
 have I1 := I0.below b1 I0.lt
 have B1 := Lib.hid (B0.trans (b1.mono B0.size))
 have gk : w.heap.size < w0.heap.size := I0.lt
 have K1 := Lib.hid k1
 generalize w0.heap.size = g at *
 have J1 := Lib.hid I1
 have c0 : w1.cell? ⟨w.heap.size, 0, none⟩ = some (.int .i64 x0) := I1.cell' rfl
 clear I0 I1 B0 b1 k1
 go_wp2_with (go_at_call 125; refine (of_ _ _).mono ?_; rintro e w' ⟨rfl, rfl⟩)
 have b1a := (Below.refl w1.heap.size w1).alloc (Nat.le_refl _) (.cells #[.int .i64 x0] 3)
 have K1a := K1.out.below b1a K1.out.lt
 refine (whereOf x0 w1.heap.size zs (some ⟨g, 0, none⟩) zs.length _ ((Is.new w1 3 #[.int .i64 x0] rfl).cell' rfl) ((K1a.seqS.from_ (Nat.zero_le _)).more K1a.lt) (by unfold maxLen; omega)).mono ?_
 rintro e w2 ⟨rfl, b2⟩
 have b12 : Below w1.heap.size w1 w2 := b1a.trans (b2.mono (by simp))
 have K2 := Lib.hid (K1.out.below b12 K1.out.lt)
 have J2 := J1.out.below b12 J1.out.lt
 have HJ2 := Lib.hid J2
 have B2 := Lib.hid (B1.out.trans (b12.mono B1.out.size))
 have l2 := J2.lt
 have lk := K2.out.lt
 have d0 : w2.cell? ⟨w.heap.size, 0, none⟩ = some (.int .i64 x0) := J2.cell' rfl
 have d1 : w2.cell? ⟨w.heap.size, 1, none⟩ = some (.int .i64 x1) := J2.cell' rfl
 have d2 : w2.cell? ⟨w.heap.size, 2, none⟩ = some (.int .i64 x2) := J2.cell' rfl
 have d3 : w2.cell? ⟨w.heap.size, 3, none⟩ = some (.int .u64 x3) := J2.cell' rfl
 clear c0 b1a K1a b2 b12 K1 J1 B1 J2
 generalize atS x0 zs = at_ at *
 obtain ⟨b', off', e', _, _, e0, e1, e2, e3⟩ := K2.out.seqS.ses hat
 obtain ⟨rfl, rfl⟩ : g = b' ∧ 0 = off' := by injection e' with e'; injection e' with e1 e2; exact ⟨e1, e2⟩
 rw [Nat.zero_add] at e0 e1 e2 e3
 clear e'
 have f0 := K2.out.frozen (at_ * 4)
 have f1 := K2.out.frozen (at_ * 4 + 1)
 have f2 := K2.out.frozen (at_ * 4 + 2)
 have f3 := K2.out.frozen (at_ * 4 + 3)
 have hn : ¬ (w.heap.size = g) := by omega
 go_wp2_with fail
 have HF : Hid (Is ((((w2.setCell ⟨g, at_ * 4, none⟩ (.int .i64 x0)).setCell ⟨g, at_ * 4 + 1, none⟩ (.int .i64 x1)).setCell ⟨g, at_ * 4 + 2, none⟩ (.int .i64 x2)).setCell ⟨g, at_ * 4 + 3, none⟩ (.int .u64 x3)) g 138 (flatS (zs.set at_ (x0, x1, x2, x3))).toArray) :=
  (((K2.out.set _ _ rfl).set _ _ rfl).set _ _ rfl).set _ _ (flatS_set zs at_ (x0, x1, x2, x3) hat)
 have HB : Hid (Below w.heap.size w ((((w2.setCell ⟨g, at_ * 4, none⟩ (.int .i64 x0)).setCell ⟨g, at_ * 4 + 1, none⟩ (.int .i64 x1)).setCell ⟨g, at_ * 4 + 2, none⟩ (.int .i64 x2)).setCell ⟨g, at_ * 4 + 3, none⟩ (.int .u64 x3))) :=
  (((B2.out.setCell (p := ⟨g, at_ * 4, none⟩) (by simp; omega) _).setCell (p := ⟨g, at_ * 4 + 1, none⟩) (by simp; omega) _).setCell (p := ⟨g, at_ * 4 + 2, none⟩) (by simp; omega) _).setCell (p := ⟨g, at_ * 4 + 3, none⟩) (by simp; omega) _
 refine bodyPost_ret (v := .tuple #[.slice (some ⟨g, 0, none⟩) zs.length zs.length, .int .i64 0]) (by simp [results, Tryz.results112, go_sem]) rfl ?_
 have hlen : (zs.set at_ (x0, x1, x2, x3)).length = zs.length := by simp
 refine ⟨some ⟨g, 0, none⟩, zs.length, ?_, ?_, HB.out⟩
 ·rw [HPut.out, hlen]
 ·rw [HPut.out]
  have h5 := HF.out.row (base := w.heap.size) (by omega) (by rw [hlen]; unfold maxLen; omega)
  rw [hlen] at h5 ⊢
  show World.ownsRow _ _ _ _ _ _ _
  rw [hlen]
  exact h5

set_option maxRecDepth 100000 in
set_option maxHeartbeats 1600000 in
theorem setFull (s : Sn) (most : Int) (zs : List Sn) (A : Option Addr) (c : Nat) (w : World) (hs : Seq w 0 w.heap.size A (flatS zs)) (hl : zs.length ≤ 900) (hh : hasS s.1 zs = false) (hm : most ≤ (zs.length : Int)) :
  Calls Tryz.prog 112 #[.slice A zs.length c, V s, .int .i64 most] w (Listed2 w zs 2) := by
 have HS := Lib.hid hs
 rw [has_at] at hh
 have hat : atS s.1 zs = zs.length := by have := atS_le s.1 zs; simp at hh; omega
 obtain ⟨x0, x1, x2, x3⟩ := s
 simp only at hat
 unfold V
 clear hs hh
 have B0 := (Below.refl w.heap.size w).alloc (Nat.le_refl _) (.cells #[.int .i64 x0, .int .i64 x1, .int .i64 x2, .int .u64 x3] 138)
 have I0 : Is (w.alloc (.cells #[.int .i64 x0, .int .i64 x1, .int .i64 x2, .int .u64 x3] 138)) w.heap.size 138 #[.int .i64 x0, .int .i64 x1, .int .i64 x2, .int .u64 x3] := Is.new _ _ _ rfl
 go_enter Tryz.func112, Tryz.ntmps112
 go_wp2_with fail
 generalize w.alloc (.cells #[.int .i64 x0, .int .i64 x1, .int .i64 x2, .int .u64 x3] 138) = w0 at *
 refine (copied zs A c w0 ((HS.out.below B0).more B0.size) (by omega)).mono ?_
 rintro e w1 ⟨rfl, k1, b1⟩
 have I1 := I0.below b1 I0.lt
 have B1 := Lib.hid (B0.trans (b1.mono B0.size))
 have gk : w.heap.size < w0.heap.size := I0.lt
 have K1 := Lib.hid k1
 generalize w0.heap.size = g at *
 have J1 := Lib.hid I1
 have c0 : w1.cell? ⟨w.heap.size, 0, none⟩ = some (.int .i64 x0) := I1.cell' rfl
 clear I0 I1 B0 b1 k1
 go_wp2_with (go_at_call 125; refine (of_ _ _).mono ?_; rintro e w' ⟨rfl, rfl⟩)
 have b1a := (Below.refl w1.heap.size w1).alloc (Nat.le_refl _) (.cells #[.int .i64 x0] 3)
 have K1a := K1.out.below b1a K1.out.lt
 refine (whereOf x0 w1.heap.size zs (some ⟨g, 0, none⟩) zs.length _ ((Is.new w1 3 #[.int .i64 x0] rfl).cell' rfl) ((K1a.seqS.from_ (Nat.zero_le _)).more K1a.lt) (by unfold maxLen; omega)).mono ?_
 rintro e w2 ⟨rfl, b2⟩
 have b12 : Below w1.heap.size w1 w2 := b1a.trans (b2.mono (by simp))
 have K2 := Lib.hid (K1.out.below b12 K1.out.lt)
 have J2 := J1.out.below b12 J1.out.lt
 have HJ2 := Lib.hid J2
 have B2 := Lib.hid (B1.out.trans (b12.mono B1.out.size))
 have l2 := J2.lt
 have lk := K2.out.lt
 have d0 : w2.cell? ⟨w.heap.size, 0, none⟩ = some (.int .i64 x0) := J2.cell' rfl
 have d1 : w2.cell? ⟨w.heap.size, 1, none⟩ = some (.int .i64 x1) := J2.cell' rfl
 have d2 : w2.cell? ⟨w.heap.size, 2, none⟩ = some (.int .i64 x2) := J2.cell' rfl
 have d3 : w2.cell? ⟨w.heap.size, 3, none⟩ = some (.int .u64 x3) := J2.cell' rfl
 clear c0 b1a K1a b2 b12 K1 J1 B1 J2
 rw [hat]
 clear hat
 go_wp2_with fail
 refine bodyPost_ret (v := .tuple #[.slice (some ⟨g, 0, none⟩) zs.length zs.length, .int .i64 2]) (by simp [results, Tryz.results112, go_sem]) rfl ?_
 exact ⟨some ⟨g, 0, none⟩, zs.length, rfl, K2.out.row (by omega) (by unfold maxLen; omega), B2.out⟩

set_option maxRecDepth 100000 in
set_option maxHeartbeats 1600000 in
theorem setNew (s : Sn) (most : Int) (zs : List Sn) (A : Option Addr) (c : Nat) (w : World) (hs : Seq w 0 w.heap.size A (flatS zs)) (hl : zs.length ≤ 900) (hh : hasS s.1 zs = false) (hm : (zs.length : Int) < most) :
  Calls Tryz.prog 112 #[.slice A zs.length c, V s, .int .i64 most] w (Listed2 w (put s zs) 0) := by
 have HS := Lib.hid hs
 rw [has_at] at hh
 have hat : atS s.1 zs = zs.length := by have := atS_le s.1 zs; simp at hh; omega
 have HPut := Lib.hid (put_past s hat)
 obtain ⟨x0, x1, x2, x3⟩ := s
 simp only at hat HPut
 unfold V
 clear hs hh
 have B0 := (Below.refl w.heap.size w).alloc (Nat.le_refl _) (.cells #[.int .i64 x0, .int .i64 x1, .int .i64 x2, .int .u64 x3] 138)
 have I0 : Is (w.alloc (.cells #[.int .i64 x0, .int .i64 x1, .int .i64 x2, .int .u64 x3] 138)) w.heap.size 138 #[.int .i64 x0, .int .i64 x1, .int .i64 x2, .int .u64 x3] := Is.new _ _ _ rfl
 go_enter Tryz.func112, Tryz.ntmps112
 go_wp2_with fail
 generalize w.alloc (.cells #[.int .i64 x0, .int .i64 x1, .int .i64 x2, .int .u64 x3] 138) = w0 at *
 refine (copied zs A c w0 ((HS.out.below B0).more B0.size) (by omega)).mono ?_
 rintro e w1 ⟨rfl, k1, b1⟩
 have I1 := I0.below b1 I0.lt
 have B1 := Lib.hid (B0.trans (b1.mono B0.size))
 have gk : w.heap.size < w0.heap.size := I0.lt
 have K1 := Lib.hid k1
 generalize w0.heap.size = g at *
 have J1 := Lib.hid I1
 have c0 : w1.cell? ⟨w.heap.size, 0, none⟩ = some (.int .i64 x0) := I1.cell' rfl
 clear I0 I1 B0 b1 k1
 go_wp2_with (go_at_call 125; refine (of_ _ _).mono ?_; rintro e w' ⟨rfl, rfl⟩)
 have b1a := (Below.refl w1.heap.size w1).alloc (Nat.le_refl _) (.cells #[.int .i64 x0] 3)
 have K1a := K1.out.below b1a K1.out.lt
 refine (whereOf x0 w1.heap.size zs (some ⟨g, 0, none⟩) zs.length _ ((Is.new w1 3 #[.int .i64 x0] rfl).cell' rfl) ((K1a.seqS.from_ (Nat.zero_le _)).more K1a.lt) (by unfold maxLen; omega)).mono ?_
 rintro e w2 ⟨rfl, b2⟩
 have b12 : Below w1.heap.size w1 w2 := b1a.trans (b2.mono (by simp))
 have K2 := Lib.hid (K1.out.below b12 K1.out.lt)
 have J2 := J1.out.below b12 J1.out.lt
 have HJ2 := Lib.hid J2
 have B2 := Lib.hid (B1.out.trans (b12.mono B1.out.size))
 have l2 := J2.lt
 have lk := K2.out.lt
 have d0 : w2.cell? ⟨w.heap.size, 0, none⟩ = some (.int .i64 x0) := J2.cell' rfl
 have d1 : w2.cell? ⟨w.heap.size, 1, none⟩ = some (.int .i64 x1) := J2.cell' rfl
 have d2 : w2.cell? ⟨w.heap.size, 2, none⟩ = some (.int .i64 x2) := J2.cell' rfl
 have d3 : w2.cell? ⟨w.heap.size, 3, none⟩ = some (.int .u64 x3) := J2.cell' rfl
 clear c0 b1a K1a b2 b12 K1 J1 B1 J2
 rw [hat]
 clear hat
 go_upto_region 8 with (fail)
 have hpl := pastS_le x0 zs
 have HIns : Hid (∀ p W, Is W g 138 (flatS zs).toArray → Is W p 138 #[.int .i64 x0, .int .i64 x1, .int .i64 x2, .int .u64 x3] → Calls Tryz.prog 126 #[.slice (some ⟨g, 0, none⟩) zs.length zs.length, .int .i64 (pastS x0 zs : Int), .slice (some ⟨p, 0, none⟩) 1 1] W (Listed W W.heap.size (zs.take (pastS x0 zs) ++ (x0, x1, x2, x3) :: zs.drop (pastS x0 zs)))) :=
  fun p W hg hp => insert zs (x0, x1, x2, x3) (pastS x0 zs) g p W hg hp (by omega) hpl
 generalize zs.take (pastS x0 zs) ++ (x0, x1, x2, x3) :: zs.drop (pastS x0 zs) = us at *
 have HA : Hid (Is ((w2.alloc (.cells #[.int .i64 x0] 3)).drew) w2.heap.size 3 #[.int .i64 x0] ∧ Is ((w2.alloc (.cells #[.int .i64 x0] 3)).drew) g 138 (flatS zs).toArray ∧ Is ((w2.alloc (.cells #[.int .i64 x0] 3)).drew) w.heap.size 138 #[.int .i64 x0, .int .i64 x1, .int .i64 x2, .int .u64 x3] ∧ Below w2.heap.size w2 ((w2.alloc (.cells #[.int .i64 x0] 3)).drew)) :=
  ⟨(Is.new _ _ _ rfl).drew, (K2.out.alloc _).drew, (HJ2.out.alloc _).drew, ((Below.refl _ w2).alloc (Nat.le_refl _) _).drew⟩
 have HBB : Hid (Is (((w2.alloc (.cells #[.int .i64 x0] 3)).alloc (.cells #[.int .i64 x0, .int .i64 x1, .int .i64 x2, .int .u64 x3] 138)).drew) w2.heap.size 3 #[.int .i64 x0] ∧ Is (((w2.alloc (.cells #[.int .i64 x0] 3)).alloc (.cells #[.int .i64 x0, .int .i64 x1, .int .i64 x2, .int .u64 x3] 138)).drew) g 138 (flatS zs).toArray ∧ Is (((w2.alloc (.cells #[.int .i64 x0] 3)).alloc (.cells #[.int .i64 x0, .int .i64 x1, .int .i64 x2, .int .u64 x3] 138)).drew) w.heap.size 138 #[.int .i64 x0, .int .i64 x1, .int .i64 x2, .int .u64 x3] ∧ Below w2.heap.size w2 (((w2.alloc (.cells #[.int .i64 x0] 3)).alloc (.cells #[.int .i64 x0, .int .i64 x1, .int .i64 x2, .int .u64 x3] 138)).drew)) :=
  ⟨((Is.new _ _ _ rfl).alloc _).drew, ((K2.out.alloc _).alloc _).drew, ((HJ2.out.alloc _).alloc _).drew, (((Below.refl _ w2).alloc (Nat.le_refl _) _).alloc (by simp) _).drew⟩
 have HCC : Hid (Is (((w2.alloc (.cells #[.int .i64 x0, .int .i64 x1, .int .i64 x2, .int .u64 x3] 138)).alloc (.cells #[.int .i64 x0] 3)).drew) (w2.heap.size + 1) 3 #[.int .i64 x0] ∧ Is (((w2.alloc (.cells #[.int .i64 x0, .int .i64 x1, .int .i64 x2, .int .u64 x3] 138)).alloc (.cells #[.int .i64 x0] 3)).drew) g 138 (flatS zs).toArray ∧ Is (((w2.alloc (.cells #[.int .i64 x0, .int .i64 x1, .int .i64 x2, .int .u64 x3] 138)).alloc (.cells #[.int .i64 x0] 3)).drew) w.heap.size 138 #[.int .i64 x0, .int .i64 x1, .int .i64 x2, .int .u64 x3] ∧ Below w2.heap.size w2 (((w2.alloc (.cells #[.int .i64 x0, .int .i64 x1, .int .i64 x2, .int .u64 x3] 138)).alloc (.cells #[.int .i64 x0] 3)).drew)) :=
  ⟨(Is.new _ _ _ (by simp)).drew, ((K2.out.alloc _).alloc _).drew, ((HJ2.out.alloc _).alloc _).drew, (((Below.refl _ w2).alloc (Nat.le_refl _) _).alloc (by simp) _).drew⟩
 have CHA := Lib.hid (wherePast x0 w2.heap.size zs (some ⟨g, 0, none⟩) zs.length ((w2.alloc (.cells #[.int .i64 x0] 3)).drew) (HA.out.1.cell' rfl) ((HA.out.2.1.seqS.from_ (Nat.zero_le _)).more HA.out.2.1.lt) (by unfold maxLen; omega))
 have CHBB := Lib.hid (wherePast x0 w2.heap.size zs (some ⟨g, 0, none⟩) zs.length (((w2.alloc (.cells #[.int .i64 x0] 3)).alloc (.cells #[.int .i64 x0, .int .i64 x1, .int .i64 x2, .int .u64 x3] 138)).drew) (HBB.out.1.cell' rfl) ((HBB.out.2.1.seqS.from_ (Nat.zero_le _)).more HBB.out.2.1.lt) (by unfold maxLen; omega))
 have CHCC := Lib.hid (wherePast x0 (w2.heap.size + 1) zs (some ⟨g, 0, none⟩) zs.length (((w2.alloc (.cells #[.int .i64 x0, .int .i64 x1, .int .i64 x2, .int .u64 x3] 138)).alloc (.cells #[.int .i64 x0] 3)).drew) (HCC.out.1.cell' rfl) ((HCC.out.2.1.seqS.from_ (Nat.zero_le _)).more HCC.out.2.1.lt) (by unfold maxLen; omega))
 have HBP : Hid (Is (((w2.alloc (.cells #[.int .i64 x0] 3)).alloc (.cells #[.int .i64 x0, .int .i64 x1, .int .i64 x2, .int .u64 x3] 138)).drew) (w2.heap.size + 1) 138 #[.int .i64 x0, .int .i64 x1, .int .i64 x2, .int .u64 x3]) := (Is.new _ _ _ (by simp)).drew
 have HCP : Hid (Is (((w2.alloc (.cells #[.int .i64 x0, .int .i64 x1, .int .i64 x2, .int .u64 x3] 138)).alloc (.cells #[.int .i64 x0] 3)).drew) w2.heap.size 138 #[.int .i64 x0, .int .i64 x1, .int .i64 x2, .int .u64 x3]) := ((Is.new _ _ _ rfl).alloc _).drew
 go_region_held3 (fun w' => w'.cell? ⟨w.heap.size, 0, none⟩ = some (.int .i64 x0) ∧ w'.cell? ⟨w.heap.size, 1, none⟩ = some (.int .i64 x1) ∧ w'.cell? ⟨w.heap.size, 2, none⟩ = some (.int .i64 x2) ∧ w'.cell? ⟨w.heap.size, 3, none⟩ = some (.int .u64 x3)) (first | (go_simp; done) | (go_keep; done)) (first
  | (go_at_call 127; refine (beyond _ _).mono ?_; rintro e v ⟨rfl, rfl⟩)
  | (go_at_call 124; with_reducible refine CHA.out.mono ?_; rintro e v2 ⟨rfl, b2⟩; have K5 := Lib.hid (HA.out.2.1.below b2 HA.out.2.1.lt); have J5 := HA.out.2.2.1.below b2 HA.out.2.2.1.lt; have B5 := Lib.hid (HA.out.2.2.2.trans (b2.mono HA.out.2.2.2.size)); have l5 := J5.lt; have lk5 := K5.out.lt; have s5 := B5.out.size; have a0 : v2.cell? ⟨w.heap.size, 0, none⟩ = some (.int .i64 x0) := J5.cell' rfl; have a1 : v2.cell? ⟨w.heap.size, 1, none⟩ = some (.int .i64 x1) := J5.cell' rfl; have a2 : v2.cell? ⟨w.heap.size, 2, none⟩ = some (.int .i64 x2) := J5.cell' rfl; have a3 : v2.cell? ⟨w.heap.size, 3, none⟩ = some (.int .u64 x3) := J5.cell' rfl; clear b2 J5)
  | (go_at_call 124; with_reducible refine CHBB.out.mono ?_; rintro e v2 ⟨rfl, b2⟩; have K5 := Lib.hid (HBB.out.2.1.below b2 HBB.out.2.1.lt); have J5 := HBB.out.2.2.1.below b2 HBB.out.2.2.1.lt; have B5 := Lib.hid (HBB.out.2.2.2.trans (b2.mono HBB.out.2.2.2.size)); have P5b := Lib.hid (HBP.out.below b2 HBP.out.lt); have l5 := J5.lt; have lk5 := K5.out.lt; have s5 := B5.out.size; have a0 : v2.cell? ⟨w.heap.size, 0, none⟩ = some (.int .i64 x0) := J5.cell' rfl; have a1 : v2.cell? ⟨w.heap.size, 1, none⟩ = some (.int .i64 x1) := J5.cell' rfl; have a2 : v2.cell? ⟨w.heap.size, 2, none⟩ = some (.int .i64 x2) := J5.cell' rfl; have a3 : v2.cell? ⟨w.heap.size, 3, none⟩ = some (.int .u64 x3) := J5.cell' rfl; clear b2 J5)
  | (go_at_call 124; with_reducible refine CHCC.out.mono ?_; rintro e v2 ⟨rfl, b2⟩; have K5 := Lib.hid (HCC.out.2.1.below b2 HCC.out.2.1.lt); have J5 := HCC.out.2.2.1.below b2 HCC.out.2.2.1.lt; have B5 := Lib.hid (HCC.out.2.2.2.trans (b2.mono HCC.out.2.2.2.size)); have P5c := Lib.hid (HCP.out.below b2 HCP.out.lt); have l5 := J5.lt; have lk5 := K5.out.lt; have s5 := B5.out.size; have a0 : v2.cell? ⟨w.heap.size, 0, none⟩ = some (.int .i64 x0) := J5.cell' rfl; have a1 : v2.cell? ⟨w.heap.size, 1, none⟩ = some (.int .i64 x1) := J5.cell' rfl; have a2 : v2.cell? ⟨w.heap.size, 2, none⟩ = some (.int .i64 x2) := J5.cell' rfl; have a3 : v2.cell? ⟨w.heap.size, 3, none⟩ = some (.int .u64 x3) := J5.cell' rfl; clear b2 J5)
  | (go_at_call 126; have t4 := HIns.out (w2.heap.size + 1) (v2) K5.out P5b.out; refine t4.mono ?_; clear t4; rintro e v3 ⟨A3, c3, rfl, r3, b3⟩; have B6 : Hid (Below w2.heap.size w2 v3) := (B5.out).trans (b3.mono (B5.out).size); have R6 : Hid (Row v3 w.heap.size (.slice A3 us.length c3) us) := own_base r3 (by have := (B5.out).size; omega); have F6 : v3.cell? ⟨w.heap.size, 0, none⟩ = some (.int .i64 x0) ∧ v3.cell? ⟨w.heap.size, 1, none⟩ = some (.int .i64 x1) ∧ v3.cell? ⟨w.heap.size, 2, none⟩ = some (.int .i64 x2) ∧ v3.cell? ⟨w.heap.size, 3, none⟩ = some (.int .u64 x3) := ⟨(B6.out.cell (p := ⟨w.heap.size, 0, none⟩) l2).trans d0, (B6.out.cell (p := ⟨w.heap.size, 1, none⟩) l2).trans d1, (B6.out.cell (p := ⟨w.heap.size, 2, none⟩) l2).trans d2, (B6.out.cell (p := ⟨w.heap.size, 3, none⟩) l2).trans d3⟩; obtain ⟨g0, g1, g2, g3⟩ := F6; clear r3 b3)
  | (go_at_call 126; have t4 := HIns.out w2.heap.size (v2) K5.out P5c.out; refine t4.mono ?_; clear t4; rintro e v3 ⟨A3, c3, rfl, r3, b3⟩; have B6 : Hid (Below w2.heap.size w2 v3) := (B5.out).trans (b3.mono (B5.out).size); have R6 : Hid (Row v3 w.heap.size (.slice A3 us.length c3) us) := own_base r3 (by have := (B5.out).size; omega); have F6 : v3.cell? ⟨w.heap.size, 0, none⟩ = some (.int .i64 x0) ∧ v3.cell? ⟨w.heap.size, 1, none⟩ = some (.int .i64 x1) ∧ v3.cell? ⟨w.heap.size, 2, none⟩ = some (.int .i64 x2) ∧ v3.cell? ⟨w.heap.size, 3, none⟩ = some (.int .u64 x3) := ⟨(B6.out.cell (p := ⟨w.heap.size, 0, none⟩) l2).trans d0, (B6.out.cell (p := ⟨w.heap.size, 1, none⟩) l2).trans d1, (B6.out.cell (p := ⟨w.heap.size, 2, none⟩) l2).trans d2, (B6.out.cell (p := ⟨w.heap.size, 3, none⟩) l2).trans d3⟩; obtain ⟨g0, g1, g2, g3⟩ := F6; clear r3 b3)
  | (go_at_call 126; have t4 := HIns.out v2.heap.size (v2.alloc (.cells #[.int .i64 x0, .int .i64 x1, .int .i64 x2, .int .u64 x3] 138)) (K5.out.alloc _) (Is.new _ _ _ rfl); refine t4.mono ?_; clear t4; rintro e v3 ⟨A3, c3, rfl, r3, b3⟩; have B6 : Hid (Below w2.heap.size w2 v3) := (B5.out.alloc s5 (.cells #[.int .i64 x0, .int .i64 x1, .int .i64 x2, .int .u64 x3] 138)).trans (b3.mono (B5.out.alloc s5 (.cells #[.int .i64 x0, .int .i64 x1, .int .i64 x2, .int .u64 x3] 138)).size); have R6 : Hid (Row v3 w.heap.size (.slice A3 us.length c3) us) := own_base r3 (by have := (B5.out.alloc s5 (.cells #[.int .i64 x0, .int .i64 x1, .int .i64 x2, .int .u64 x3] 138)).size; omega); have F6 : v3.cell? ⟨w.heap.size, 0, none⟩ = some (.int .i64 x0) ∧ v3.cell? ⟨w.heap.size, 1, none⟩ = some (.int .i64 x1) ∧ v3.cell? ⟨w.heap.size, 2, none⟩ = some (.int .i64 x2) ∧ v3.cell? ⟨w.heap.size, 3, none⟩ = some (.int .u64 x3) := ⟨(B6.out.cell (p := ⟨w.heap.size, 0, none⟩) l2).trans d0, (B6.out.cell (p := ⟨w.heap.size, 1, none⟩) l2).trans d1, (B6.out.cell (p := ⟨w.heap.size, 2, none⟩) l2).trans d2, (B6.out.cell (p := ⟨w.heap.size, 3, none⟩) l2).trans d3⟩; obtain ⟨g0, g1, g2, g3⟩ := F6; clear r3 b3)
  | fail)
 all_goals
  have B7 := Lib.hid (B2.out.trans (B6.out.mono B2.out.size))
  go_wp2_with fail
  refine bodyPost_ret (v := .tuple #[.slice A3 us.length c3, .int .i64 0]) (by simp [results, Tryz.results112, go_sem]) rfl ?_
  exact ⟨A3, c3, by rw [HPut.out], by rw [HPut.out]; exact R6.out, B7.out⟩
end Sess
end Go.Proofs.YtohdlnefgieenaaGreat
