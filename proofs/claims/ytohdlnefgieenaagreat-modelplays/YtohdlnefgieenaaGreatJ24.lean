/-
  Acts of layer 10's statements in memory, out of the reading of an argument: ops with their users.
-/
import Derived.Test.YtohdlnefgieenaaGreatJ22
import Derived.Test.YtohdlnefgieenaaGreatJ21
import Derived.Test.YtohdlnefgieenaaGreatJ11
import Derived.Test.YtohdlnefgieenaaGreatJ23
namespace Go.Law
open Go.RowKit Go.ChangeShapes Go.WideShapes Go.ChangeAt
def cellsW (q : OpW) : List Value := [.int .i64 q.kind, .string q.user, .int .i64 q.id, .int .i64 q.st, .int .i64 q.pr, .int .u64 q.ttl, .slice q.A q.us.length q.c]
structure OpW.Good (q : OpW) (W : World) : Prop where
 in_ : q.In W
 kind : (Lit.int .i64 q.kind).wf = true
 id : (Lit.int .i64 q.id).wf = true
 st : (Lit.int .i64 q.st).wf = true
 pr : (Lit.int .i64 q.pr).wf = true
 cap : q.us.length ≤ q.c
section
variable {H : Type} {enc : TypeId × Value → H} {P : Program} {W : World} {base : Nat} {sp : Nat → Bool} {hd : Bool} {fuel : Nat} {cs : List Value} {x : DataW H × List MemPlace}
theorem flat_str : ∀ l : List ByteArray, l.flatMap (fun u => [Value.string u]) = l.map .string
 | [] => rfl
 | u :: r => by rw [List.flatMap_cons, List.map_cons, flat_str r]; rfl
theorem dec_opW {o ts : TypeId} {g0 g1 g2 g3 g4 g5 g6 : Field} (ho : P.underlying o = some (.struct #[g0, g1, g2, g3, g4, g5, g6])) (co : P.cellsOf o = 7)
  (o0 : g0.offset = 0) (o1 : g1.offset = 1) (o2 : g2.offset = 2) (o3 : g3.offset = 3) (o4 : g4.offset = 4) (o5 : g5.offset = 5) (o6 : g6.offset = 6)
  (c0 : P.cellsOf g0.type = 1) (c1 : P.cellsOf g1.type = 1) (c2 : P.cellsOf g2.type = 1) (c3 : P.cellsOf g3.type = 1) (c4 : P.cellsOf g4.type = 1) (c5 : P.cellsOf g5.type = 1) (c6 : P.cellsOf g6.type = 1)
  (u0 : P.underlying g0.type = some (.int .i64)) (u1 : P.underlying g1.type = some .string) (u2 : P.underlying g2.type = some (.int .i64)) (u3 : P.underlying g3.type = some (.int .i64)) (u4 : P.underlying g4.type = some (.int .i64)) (u5 : P.underlying g5.type = some (.int .u64)) (u6 : P.underlying g6.type = some (.slice ts)) (us : P.underlying ts = some .string) (cs1 : P.cellsOf ts = 1)
  (h : DataW.trod enc P W base sp hd fuel o cs = some x) : ∃ q : OpW, cs = cellsW q ∧ q.Good W := by
 obtain ⟨xs, n, _, _, hl, hxl, hf⟩ := DataW.trod_struct ho h
 rw [co] at hl
 match cs, hl, xs, hxl with
 | [v0, v1, v2, v3, v4, v5, v6], _, [y0, y1, y2, y3, y4, y5, y6], _ =>
   have k0 := hf 0 g0 rfl
   have k1 := hf 1 g1 rfl
   have k2 := hf 2 g2 rfl
   have k3 := hf 3 g3 rfl
   have k4 := hf 4 g4 rfl
   have k5 := hf 5 g5 rfl
   have k6 := hf 6 g6 rfl
   simp [o0, o1, o2, o3, o4, o5, o6, c0, c1, c2, c3, c4, c5, c6] at k0 k1 k2 k3 k4 k5 k6
   obtain ⟨a0, e0, _, w0⟩ := DataW.trod_int u0 k0
   obtain ⟨a1, e1, _, w1⟩ := DataW.trod_string u1 k1
   obtain ⟨a2, e2, _, w2⟩ := DataW.trod_int u2 k2
   obtain ⟨a3, e3, _, w3⟩ := DataW.trod_int u3 k3
   obtain ⟨a4, e4, _, w4⟩ := DataW.trod_int u4 k4
   obtain ⟨a5, e5, _, w5⟩ := DataW.trod_int u5 k5
   obtain ⟨A, c, l, e6, hc, hs, hl6, hq⟩ := open_rowsT (Good := fun u : ByteArray => u.size ≤ maxLen) (fun u => [Value.string u]) (sz := 1) (fun _ => rfl) u6 cs1 (by decide) (fun fuel cs x hf => by
    obtain ⟨z, e, _, hz⟩ := DataW.trod_string us hf
    exact ⟨z, e, hz⟩) k6
   simp at e0 e1 e2 e3 e4 e5 e6
   subst e0 e1 e2 e3 e4 e5 e6
   refine ⟨⟨a0, a1, a2, a3, a4, a5, A, c, l⟩, rfl, ⟨?_, hl6, hq, w1, bounds_u64 w5⟩, w0, w2, w3, w4, hc⟩
   rw [← flat_str]
   exact hs
end
structure AcM where
 do_ : Int
 who : Int
 op : OpW
 by_ : Int
def cellsM (q : AcM) : List Value := .int .u8 q.do_ :: .int .i64 q.who :: (cellsW q.op ++ [.int .u64 q.by_])
structure AcM.Good (q : AcM) (W : World) : Prop where
 do_ : (Lit.int .u8 q.do_).wf = true
 who : (Lit.int .i64 q.who).wf = true
 op : q.op.Good W
 by_ : (Lit.int .u64 q.by_).wf = true
section
variable {H : Type} {enc : TypeId × Value → H} {P : Program} {W : World} {base : Nat} {sp : Nat → Bool} {hd : Bool} {fuel : Nat} {cs : List Value} {x : DataW H × List MemPlace}
theorem dec_acM {e : TypeId} {f0 f1 f2 f3 : Field} (he : P.underlying e = some (.struct #[f0, f1, f2, f3])) (ce : P.cellsOf e = 10) (o0 : f0.offset = 0) (o1 : f1.offset = 1) (o2 : f2.offset = 2) (o3 : f3.offset = 9)
  (c0 : P.cellsOf f0.type = 1) (c1 : P.cellsOf f1.type = 1) (c2 : P.cellsOf f2.type = 7) (c3 : P.cellsOf f3.type = 1) (u0 : P.underlying f0.type = some (.int .u8)) (u1 : P.underlying f1.type = some (.int .i64)) (u3 : P.underlying f3.type = some (.int .u64))
  (dop : ∀ fuel cs x, DataW.trod enc P W base sp hd fuel f2.type cs = some x → ∃ q : OpW, cs = cellsW q ∧ q.Good W)
  (h : DataW.trod enc P W base sp hd fuel e cs = some x) : ∃ q : AcM, cs = cellsM q ∧ q.Good W := by
 obtain ⟨xs, n, _, _, hl, hxl, hf⟩ := DataW.trod_struct he h
 rw [ce] at hl
 match cs, hl, xs, hxl with
 | [v0, v1, v2, v3, v4, v5, v6, v7, v8, v9], _, [y0, y1, y2, y3], _ =>
   have k0 := hf 0 f0 rfl
   have k1 := hf 1 f1 rfl
   have k2 := hf 2 f2 rfl
   have k3 := hf 3 f3 rfl
   simp [o0, o1, o2, o3, c0, c1, c2, c3] at k0 k1 k2 k3
   obtain ⟨a0, e0, _, w0⟩ := DataW.trod_int u0 k0
   obtain ⟨a1, e1, _, w1⟩ := DataW.trod_int u1 k1
   obtain ⟨q, e2, g2⟩ := dop _ _ _ k2
   obtain ⟨a3, e3, _, w3⟩ := DataW.trod_int u3 k3
   simp at e0 e1 e3
   subst e0 e1 e3
   exact ⟨⟨a0, a1, q, a3⟩, by unfold cellsM; rw [← e2]; rfl, w0, w1, g2, w3⟩
end
end Go.Law
namespace Go.Proofs.YtohdlnefgieenaaGreat
open Go.RowKit Go.Shelf Go.ChangeShapes Go.WideShapes Go.ChangeAt
namespace Mod
open Go.Law
variable {H : Type} {enc : TypeId × Value → H} {W : World} {base b0 : Nat} {sp : Nat → Bool} {hd : Bool} {v : Value} {d : DataW H} {p : List MemPlace}
theorem decOp (fuel : Nat) (cs : List Value) (x : DataW H × List MemPlace) (h : DataW.trod enc Tryz.prog W base sp hd fuel 37 cs = some x) : ∃ q : OpW, cs = cellsW q ∧ q.Good W :=
 dec_opW Tryz.underlying37 (by kernel_rfl) rfl rfl rfl rfl rfl rfl rfl (by kernel_rfl) (by kernel_rfl) (by kernel_rfl) (by kernel_rfl) (by kernel_rfl) (by kernel_rfl) (by kernel_rfl)
  Tryz.underlying3 Tryz.underlying9 Tryz.underlying3 Tryz.underlying3 Tryz.underlying3 Tryz.underlying22 Tryz.underlying35 Tryz.underlying9 (by kernel_rfl) h
theorem decAct (fuel : Nat) (cs : List Value) (x : DataW H × List MemPlace) (h : DataW.trod enc Tryz.prog W base sp hd fuel 39 cs = some x) : ∃ q : AcM, cs = cellsM q ∧ q.Good W :=
 dec_acM Tryz.underlying39 (by kernel_rfl) rfl rfl rfl rfl (by kernel_rfl) (by kernel_rfl) (by kernel_rfl) (by kernel_rfl) Tryz.underlying5 Tryz.underlying3 Tryz.underlying22 decOp h
set_option maxRecDepth 100000 in
theorem open_acts (hv : Value.okWide Tryz.prog W .any b0 25 v) (h : DataW.Trod enc Tryz.prog W base sp hd 25 v d p) :
  ∃ (A : Option Addr) (c : Nat) (l : List AcM), v = .slice A l.length c ∧ Seq W 0 W.heap.size A (l.flatMap cellsM) ∧ l.length ≤ maxLen ∧ ∀ q ∈ l, q.Good W :=
 open_rows cellsM (sz := 10) (fun _ => rfl) (Good := fun q => q.Good W) Tryz.underlying25 (by kernel_rfl) (by decide) decAct hv h
end Mod
end Go.Proofs.YtohdlnefgieenaaGreat
namespace Go.Proofs.YtohdlnefgieenaaGreat
open Go.RowKit Go.Shelf
attribute [local go_sem] Oper.semAt_some
namespace Mod
open Go.Law Feed Bk
theorem _root_.Go.Law.OpW.In.mono_ {q : OpW} {w w' : World} (h : q.In w) (hb : Below w.heap.size w w') : q.In w' := h.below hb
abbrev _root_.Go.Law.AcM.box (q : AcM) : Array Value := #[.int .u8 q.do_, .int .i64 q.who, .int .i64 q.op.kind, .string q.op.user, .int .i64 q.op.id, .int .i64 q.op.st, .int .i64 q.op.pr, .int .u64 q.op.ttl, .slice q.op.A q.op.us.length q.op.c, .int .u64 q.by_]
structure MAt (w : World) (b o : Nat) (q : AcM) : Prop where
 c0 : w.cell? ⟨b, o, none⟩ = some (.int .u8 q.do_)
 c1 : w.cell? ⟨b, o + 1, none⟩ = some (.int .i64 q.who)
 c2 : w.cell? ⟨b, o + 2, none⟩ = some (.int .i64 q.op.kind)
 c3 : w.cell? ⟨b, o + 3, none⟩ = some (.string q.op.user)
 c4 : w.cell? ⟨b, o + 4, none⟩ = some (.int .i64 q.op.id)
 c5 : w.cell? ⟨b, o + 5, none⟩ = some (.int .i64 q.op.st)
 c6 : w.cell? ⟨b, o + 6, none⟩ = some (.int .i64 q.op.pr)
 c7 : w.cell? ⟨b, o + 7, none⟩ = some (.int .u64 q.op.ttl)
 c8 : w.cell? ⟨b, o + 8, none⟩ = some (.slice q.op.A q.op.us.length q.op.c)
 c9 : w.cell? ⟨b, o + 9, none⟩ = some (.int .u64 q.by_)
theorem _root_.Go.Law.Seq.acM {w : World} {lo B : Nat} {A : Option Addr} {l : List AcM} {i : Nat} (h : Seq w lo B A (l.flatMap cellsM)) (hi : i < l.length) : ∃ b off, A = some ⟨b, off, none⟩ ∧ lo ≤ b ∧ b < B ∧ MAt w b (off + i * 10) l[i] := by
 obtain ⟨b, off, hA, h1, h2, hc⟩ := Seq.row (cells := cellsM) (fun _ => rfl) (by decide : 0 < 10) h hi
 exact ⟨b, off, hA, h1, h2, by simpa using hc 0 _ rfl, hc 1 _ rfl, hc 2 _ rfl, hc 3 _ rfl, hc 4 _ rfl, hc 5 _ rfl, hc 6 _ rfl, hc 7 _ rfl, hc 8 _ rfl, hc 9 _ rfl⟩
def shortB (q : OpW) : Bool := decide (q.user.size ≤ 40) && (decide (q.us.length ≤ 20) && q.us.all fun u => decide (u.size ≤ 40))
set_option maxRecDepth 100000 in
set_option maxHeartbeats 2000000 in
theorem short (q : OpW) {w : World} (h : q.In w) {r : Bool} (hr : shortB q = r) : Calls Tryz.prog 22 #[q.v.val] w fun e w' => e = .returned (.bool r) ∧ Below w.heap.size w w' := by
 obtain ⟨kind, user, id, st, pr, ttl, A, c, us⟩ := q
 subst hr
 have bb := (Below.refl w.heap.size w).alloc (Nat.le_refl _) (.cells #[.int .i64 kind, .string user, .int .i64 id, .int .i64 st, .int .i64 pr, .int .u64 ttl, .slice A us.length c] 37)
 have IN1 := Lib.hid (h.below bb)
 have HX := Lib.hid (Is.new w 37 #[.int .i64 kind, .string user, .int .i64 id, .int .i64 st, .int .i64 pr, .int .u64 ttl, .slice A us.length c] rfl)
 have HB := Lib.hid bb
 have hl := h.len
 have hu := h.user
 simp only at hl hu
 unfold maxLen at hl hu
 clear h bb
 show Calls _ _ #[.agg #[.int .i64 kind, .string user, .int .i64 id, .int .i64 st, .int .i64 pr, .int .u64 ttl, .slice A us.length c]] _ _
 by_cases h0 : user.size ≤ 40
 ·have d0 : decide ((40 : Int) < (user.size : Int)) = false := by simp; omega
  by_cases h1 : us.length ≤ 20
  ·have d1 : decide ((20 : Int) < (us.length : Int)) = false := by simp; omega
   have HE : Hid (shortB ⟨kind, user, id, st, pr, ttl, A, c, us⟩ = us.all fun u => decide (u.size ≤ 40)) := by show _ = _; unfold shortB; simp [h0, h1]
   rw [HE.out]
   go_enter Tryz.func22, Tryz.ntmps22
   go_wp2_with fail
   generalize (w.alloc (.cells #[.int .i64 kind, .string user, .int .i64 id, .int .i64 st, .int .i64 pr, .int .u64 ttl, .slice A us.length c] 37)) = w1 at *
   have HX1 := Lib.hid (HX.out.cell' (i := 6) rfl)
   have lx := HX.out.lt
   have c6 : w1.cell? ⟨w.heap.size, 6, none⟩ = some (.slice A us.length c) := HX1.out
   go_loop [3] (fun i => ∃ j : Nat, j ≤ us.length ∧ i = .int .i64 j ∧ (us.take j).all (fun u => decide (u.size ≤ 40)) = true) (fun i => us.length - (intOf i).toNat)
   case atStart => exact ⟨0, Nat.zero_le _, rfl, by simp⟩
   case round =>
    obtain ⟨j, hj, rfl, ha⟩ := hrel
    have HA := Lib.hid ha
    clear ha
    by_cases hlt : j < us.length
    ·obtain ⟨b, off, rfl, _, hb, c0⟩ := IN1.out.us.str hlt
     have e1 : decide ((j : Int) < (us.length : Int)) = true := by simp; omega
     have HT : Hid ((us.take (j + 1)).all (fun u => decide (u.size ≤ 40)) = ((us.take j).all (fun u => decide (u.size ≤ 40)) && decide (us[j].size ≤ 40))) := by show _ = _; rw [List.take_succ_eq_append_getElem hlt, List.all_append]; simp
     have HM := Lib.hid (List.getElem_mem hlt)
     have hz := IN1.out.size _ HM.out
     unfold maxLen at hz
     simp only at c0 hz hb
     generalize us[j] = u at *
     by_cases hu2 : u.size ≤ 40
     ·have d2 : decide ((40 : Int) < (u.size : Int)) = false := by simp; omega
      go_wp2_with fail
      go_round
      case rel => exact ⟨j + 1, by omega, by go_num, by rw [HT.out, HA.out]; simpa using hu2⟩
      case measure => simp [intOf]; omega
     ·have d2 : decide ((40 : Int) < (u.size : Int)) = true := by simp; omega
      have HE2 : Hid ((us.all fun u => decide (u.size ≤ 40)) = false) := by show _ = _; rw [List.all_eq_false]; exact ⟨u, HM.out, by simpa using hu2⟩
      go_wp2_with fail
      go_ret
      exact ⟨by rw [HE2.out]; rfl, HB.out⟩
    ·have e1 : us.take j = us := List.take_of_length_le (by omega)
     have e2 : decide ((j : Int) < (us.length : Int)) = false := by simp; omega
     rw [e1] at HA
     go_wp2_with fail
     go_ret
     exact ⟨by rw [HA.out]; rfl, HB.out⟩
  ·have d1 : decide ((20 : Int) < (us.length : Int)) = true := by simp; omega
   have HE : Hid (shortB ⟨kind, user, id, st, pr, ttl, A, c, us⟩ = false) := by show _ = _; unfold shortB; simp; omega
   rw [HE.out]
   go_enter Tryz.func22, Tryz.ntmps22
   go_wp2_with fail
   go_ret
   exact ⟨rfl, HB.out⟩
 ·have d0 : decide ((40 : Int) < (user.size : Int)) = true := by simp; omega
  have HE : Hid (shortB ⟨kind, user, id, st, pr, ttl, A, c, us⟩ = false) := by show _ = _; unfold shortB; simp; omega
  rw [HE.out]
  go_enter Tryz.func22, Tryz.ntmps22
  go_wp2_with fail
  go_ret
  exact ⟨rfl, HB.out⟩
def longM (l : List AcM) : Bool := decide (120 < l.length) || l.any fun q => !shortB q.op
theorem longM_no {l : List AcM} (h : longM l = false) : l.length ≤ 120 ∧ ∀ q ∈ l, shortB q.op = true := by
 unfold longM at h
 rw [Bool.or_eq_false_iff] at h
 refine ⟨by simpa using h.1, fun q hq => ?_⟩
 have := h.2
 rw [List.any_eq_false] at this
 simpa using this q hq
set_option maxRecDepth 100000 in
set_option maxHeartbeats 2000000 in
theorem long (l : List AcM) (A : Option Addr) (c : Nat) (w : World) (hs : Seq w 0 w.heap.size A (l.flatMap cellsM)) (hl : l.length ≤ maxLen) (hq : ∀ q ∈ l, q.op.In w) {r : Bool} (hr : longM l = r) :
  Calls Tryz.prog 5 #[.slice A l.length c] w fun e w' => e = .returned (.bool r) ∧ Below w.heap.size w w' := by
 subst hr
 have HS := Lib.hid hs
 have HQ := Lib.hid hq
 clear hs hq
 unfold maxLen at hl
 by_cases h0 : 120 < l.length
 ·have d0 : decide ((120 : Int) < (l.length : Int)) = true := by simp; omega
  have HE : Hid (longM l = true) := by show _ = _; unfold longM; simp [h0]
  go_enter Tryz.func5, Tryz.ntmps5
  go_wp2_with fail
  go_ret
  exact ⟨by rw [HE.out]; rfl, Below.refl _ _⟩
 ·have d0 : decide ((120 : Int) < (l.length : Int)) = false := by simp; omega
  have HE : Hid (longM l = l.any fun q => !shortB q.op) := by show _ = _; unfold longM; simp [h0]
  go_enter Tryz.func5, Tryz.ntmps5
  go_wp2_with fail
  go_loopw [3] (fun i wr => ∃ j : Nat, j ≤ l.length ∧ i = .int .i64 j ∧ (l.take j).any (fun q => !shortB q.op) = false ∧ Below w.heap.size w wr) (fun i _ => l.length - (intOf i).toNat)
  case atStart => exact ⟨0, Nat.zero_le _, rfl, by simp, Below.refl _ _⟩
  case round =>
   obtain ⟨j, hj, rfl, ha, hB⟩ := hrel
   have HA := Lib.hid ha
   have HB := Lib.hid hB
   have sz := hB.size
   clear ha hB
   by_cases hlt : j < l.length
   ·obtain ⟨b, off, rfl, _, hb, c0, c1, c2, c3, c4, c5, c6, c7, c8, c9⟩ := (HS.out.below HB.out).acM hlt
    have e1 : decide ((j : Int) < (l.length : Int)) = true := by simp; omega
    have HT : Hid ((l.take (j + 1)).any (fun q => !shortB q.op) = ((l.take j).any (fun q => !shortB q.op) || !shortB l[j].op)) := by show _ = _; rw [List.take_succ_eq_append_getElem hlt, List.any_append]; simp
    have HM := Lib.hid (List.getElem_mem hlt)
    have HIN := Lib.hid ((HQ.out _ HM.out).mono_ HB.out)
    have lb := Nat.lt_of_lt_of_le hb sz
    generalize l[j] = q at *
    obtain ⟨dI, qw, ⟨kind, user, id, st, pr, ttl, Au, cu, us⟩, by_⟩ := q
    simp only at c0 c1 c2 c3 c4 c5 c6 c7 c8 c9
    cases hsh : shortB ⟨kind, user, id, st, pr, ttl, Au, cu, us⟩ with
    | false =>
      have HE2 : Hid (longM l = true) := by show _ = _; rw [HE.out, List.any_eq_true]; exact ⟨_, HM.out, by simp [hsh]⟩
      go_wp2_with fail
      refine (short ⟨kind, user, id, st, pr, ttl, Au, cu, us⟩ HIN.out hsh).mono ?_
      rintro e w2 ⟨rfl, b2⟩
      have HB2 := Lib.hid (HB.out.trans (b2.mono sz))
      clear b2
      go_wp2_with fail
      go_ret
      exact ⟨by rw [HE2.out]; rfl, HB2.out⟩
    | true =>
      go_wp2_with fail
      refine (short ⟨kind, user, id, st, pr, ttl, Au, cu, us⟩ HIN.out hsh).mono ?_
      rintro e w2 ⟨rfl, b2⟩
      have HB2 := Lib.hid (HB.out.trans (b2.mono sz))
      clear b2
      go_wp2_with fail
      go_roundw
      case rel => exact ⟨j + 1, by omega, by go_num, by rw [HT.out, HA.out]; simp [hsh], HB2.out⟩
      case measure => simp [intOf]; omega
   ·have e1 : l.take j = l := List.take_of_length_le (by omega)
    have e2 : decide ((j : Int) < (l.length : Int)) = false := by simp; omega
    rw [e1] at HA
    go_wp2_with fail
    go_ret
    exact ⟨by rw [HE.out, HA.out]; rfl, HB.out⟩
end Mod
end Go.Proofs.YtohdlnefgieenaaGreat
namespace Go.Proofs.YtohdlnefgieenaaGreat
open Go.RowKit Go.Shelf
attribute [local go_sem] Oper.semAt_some
namespace Mod
open Go.Law Feed Bk
def Mo.act (a : Mo) (q : AcM) : Mo × Rep := if q.do_ % 3 = 1 then (a.tick q.by_, Rep.of 0) else if q.do_ % 3 = 2 then (a.sweep (q.by_ % 9), Rep.of 0) else a.do_ q.who q.op
theorem act_ok {a : Mo} {b : Nat} (h : a.Ok b) (q : AcM) (ht : Door.U q.by_) : (a.act q).1.Ok (b + 1) := by
 unfold Mo.act
 split
 ·exact (tick_ok h ht).more (by omega)
 ·split
  ·exact (sweep_ok h _).more (by omega)
  ·exact do_ok h _ _
section
variable {w w' : World} {base m t c b : Nat} {S S' : Nat → Prop} {a : Mo}
set_option maxRecDepth 100000 in
set_option maxHeartbeats 2000000 in
theorem befalls (q : AcM) (h : Tab w base S m a) (ho : a.Ok b) (hb : b ≤ 380) (hbw : base ≤ w.heap.size) (hin : q.op.In w) (hd : 0 ≤ q.do_ ∧ q.do_ ≤ 255) (ht : Door.U q.by_) :
  Calls Tryz.prog 10 #[.pointer (some ⟨m, 0, none⟩), .agg q.box] w (Polled w base S m (a.act q).1 (a.act q).2) := by
 obtain ⟨dI, qw, ⟨kind, user, id, st, pr, ttl, A, c, us⟩, by_⟩ := q
 simp only at hd ht hin
 have bb := ((Below.refl w.heap.size w).alloc (Nat.le_refl _) (.cells #[.int .u8 dI, .int .i64 qw, .int .i64 kind, .string user, .int .i64 id, .int .i64 st, .int .i64 pr, .int .u64 ttl, .slice A us.length c, .int .u64 by_] 39)).alloc (by simp) (.cells #[.int .i64 0, .slice none 0 0, .slice none 0 0, .bool false] 43)
 have HX1 : Hid (Is ((w.alloc (.cells #[.int .u8 dI, .int .i64 qw, .int .i64 kind, .string user, .int .i64 id, .int .i64 st, .int .i64 pr, .int .u64 ttl, .slice A us.length c, .int .u64 by_] 39)).alloc (.cells #[.int .i64 0, .slice none 0 0, .slice none 0 0, .bool false] 43)) w.heap.size 39 #[.int .u8 dI, .int .i64 qw, .int .i64 kind, .string user, .int .i64 id, .int .i64 st, .int .i64 pr, .int .u64 ttl, .slice A us.length c, .int .u64 by_]) := (Is.new w _ _ rfl).alloc _
 have HR1 : Hid (Is ((w.alloc (.cells #[.int .u8 dI, .int .i64 qw, .int .i64 kind, .string user, .int .i64 id, .int .i64 st, .int .i64 pr, .int .u64 ttl, .slice A us.length c, .int .u64 by_] 39)).alloc (.cells #[.int .i64 0, .slice none 0 0, .slice none 0 0, .bool false] 43)) (w.heap.size + 1) 43 #[.int .i64 0, .slice none 0 0, .slice none 0 0, .bool false]) := Is.new _ _ _ (by simp)
 have H1 := Lib.hid (h.below bb)
 have G1 : Hid (Gone w S _ S) := Gone.of_below bb
 have IN1 := Lib.hid (hin.below bb)
 have HO := Lib.hid ho
 have hok := Lib.hid h.ok
 have hbw1 := Nat.le_trans hbw bb.size
 have NR : Hid (¬ S (w.heap.size + 1)) := fun hx => by have := (hok.out _ hx).2; omega
 have HT := Lib.hid ht
 obtain ⟨d, rfl⟩ := Int.eq_ofNat_of_zero_le hd.1
 clear bb h ho hin ht
 by_cases h1 : d % 3 = 1
 ·have e1 : ((d : Int) % 3 == 1) = true := by simp; omega
  have HE : Hid (a.act ⟨(d : Int), qw, ⟨kind, user, id, st, pr, ttl, A, c, us⟩, by_⟩ = (a.tick by_, Rep.of 0)) := by show _ = _; unfold Mo.act; rw [if_pos (by show (d : Int) % 3 = 1; omega)]
  rw [HE.out]
  go_enter Tryz.func10, Tryz.ntmps10
  go_wp2_with fail
  generalize ((w.alloc (.cells #[.int .u8 (d : Int), .int .i64 qw, .int .i64 kind, .string user, .int .i64 id, .int .i64 st, .int .i64 pr, .int .u64 ttl, .slice A us.length c, .int .u64 by_] 39)).alloc (.cells #[.int .i64 0, .slice none 0 0, .slice none 0 0, .bool false] 43)) = w1 at *
  obtain ⟨t, c', arr, p, g, Sk, hV⟩ := H1.out
  refine (tick hV HO.out.now by_ HT.out).mono ?_
  rintro e w3 ⟨rfl, hT, hG⟩
  have HR3 := Lib.hid (hG.is HR1.out NR.out)
  have H3 := Lib.hid hT.tab
  have G3 := Lib.hid (G1.out.trans hG)
  clear hT hG hV
  have lr := HR3.out.lt
  have r0 := HR3.out.cell' (i := 0) rfl
  have r1 := HR3.out.cell' (i := 1) rfl
  have r2 := HR3.out.cell' (i := 2) rfl
  have r3 := HR3.out.cell' (i := 3) rfl
  have q0 := HR3.out.frozen 0
  have q1 := HR3.out.frozen 1
  have q2 := HR3.out.frozen 2
  have q3 := HR3.out.frozen 3
  go_wp2_with fail
  have HW := wrap HR3.out H3.out G3.out (Nat.le_succ _) NR.out (.int .i64 0) (.slice none 0 0) (.slice none 0 0) (.bool false)
  generalize (((w3.setCell ⟨w.heap.size + 1, 0, none⟩ (.int .i64 0)).setCell ⟨w.heap.size + 1, 1, none⟩ (.slice none 0 0)).setCell ⟨w.heap.size + 1, 2, none⟩ (.slice none 0 0)).setCell ⟨w.heap.size + 1, 3, none⟩ (.bool false) = wz at *
  have n0 := HW.box.cell' (i := 0) rfl
  have n1 := HW.box.cell' (i := 1) rfl
  have n2 := HW.box.cell' (i := 2) rfl
  have n3 := HW.box.cell' (i := 3) rfl
  refine bodyPost_ret (v := .agg #[.int .i64 0, .slice none 0 0, .slice none 0 0, .bool false]) (by simp [results, Tryz.results10, go_sem, n0, n1, n2, n3]) rfl ?_
  exact ⟨none, 0, none, 0, rfl, fun h => absurd rfl h, fun h => absurd rfl h, S, HW.tab, HW.gone⟩
 ·by_cases h2 : d % 3 = 2
  ·have e1 : ((d : Int) % 3 == 1) = false := by simp; omega
   have e2 : ((d : Int) % 3 == 2) = true := by simp; omega
   have HE : Hid (a.act ⟨(d : Int), qw, ⟨kind, user, id, st, pr, ttl, A, c, us⟩, by_⟩ = (a.sweep (by_ % 9), Rep.of 0)) := by show _ = _; unfold Mo.act; rw [if_neg (by show ¬ (d : Int) % 3 = 1; omega), if_pos (by show (d : Int) % 3 = 2; omega)]
   rw [HE.out]
   go_enter Tryz.func10, Tryz.ntmps10
   go_wp2_with fail
   have hmod : wrap64 (by_.tmod 9) = by_ % 9 := by have h0 := HT.out.1; rw [Int.tmod_eq_emod_of_nonneg h0]; have := Int.emod_nonneg by_ (show (9 : Int) ≠ 0 by decide); have := Int.emod_lt_of_pos by_ (show (0 : Int) < 9 by decide); unfold wrap64; omega
   rw [hmod]
   generalize ((w.alloc (.cells #[.int .u8 (d : Int), .int .i64 qw, .int .i64 kind, .string user, .int .i64 id, .int .i64 st, .int .i64 pr, .int .u64 ttl, .slice A us.length c, .int .u64 by_] 39)).alloc (.cells #[.int .i64 0, .slice none 0 0, .slice none 0 0, .bool false] 43)) = w1 at *
   refine (sweep H1.out HO.out hb hbw1 (by_ % 9)).mono ?_
   rintro e w3 ⟨rfl, S', hT, hG⟩
   have HR3 := Lib.hid (hG.is HR1.out NR.out)
   have H3 := Lib.hid hT
   have G3 := Lib.hid (G1.out.trans hG)
   have N3 : ¬ S' (w.heap.size + 1) := fun hx => (hG.new _ hx).elim NR.out (fun h' => by have := HR1.out.lt; omega)
   clear hT hG
   have lr := HR3.out.lt
   have r0 := HR3.out.cell' (i := 0) rfl
   have r1 := HR3.out.cell' (i := 1) rfl
   have r2 := HR3.out.cell' (i := 2) rfl
   have r3 := HR3.out.cell' (i := 3) rfl
   have q0 := HR3.out.frozen 0
   have q1 := HR3.out.frozen 1
   have q2 := HR3.out.frozen 2
   have q3 := HR3.out.frozen 3
   go_wp2_with fail
   have HW := wrap HR3.out H3.out G3.out (Nat.le_succ _) N3 (.int .i64 0) (.slice none 0 0) (.slice none 0 0) (.bool false)
   generalize (((w3.setCell ⟨w.heap.size + 1, 0, none⟩ (.int .i64 0)).setCell ⟨w.heap.size + 1, 1, none⟩ (.slice none 0 0)).setCell ⟨w.heap.size + 1, 2, none⟩ (.slice none 0 0)).setCell ⟨w.heap.size + 1, 3, none⟩ (.bool false) = wz at *
   have n0 := HW.box.cell' (i := 0) rfl
   have n1 := HW.box.cell' (i := 1) rfl
   have n2 := HW.box.cell' (i := 2) rfl
   have n3 := HW.box.cell' (i := 3) rfl
   refine bodyPost_ret (v := .agg #[.int .i64 0, .slice none 0 0, .slice none 0 0, .bool false]) (by simp [results, Tryz.results10, go_sem, n0, n1, n2, n3]) rfl ?_
   exact ⟨none, 0, none, 0, rfl, fun h => absurd rfl h, fun h => absurd rfl h, S', HW.tab, HW.gone⟩
  ·have e1 : ((d : Int) % 3 == 1) = false := by simp; omega
   have e2 : ((d : Int) % 3 == 2) = false := by simp; omega
   have HE : Hid (a.act ⟨(d : Int), qw, ⟨kind, user, id, st, pr, ttl, A, c, us⟩, by_⟩ = a.do_ qw ⟨kind, user, id, st, pr, ttl, A, c, us⟩) := by show _ = _; unfold Mo.act; rw [if_neg (by show ¬ (d : Int) % 3 = 1; omega), if_neg (by show ¬ (d : Int) % 3 = 2; omega)]
   rw [HE.out]
   go_enter Tryz.func10, Tryz.ntmps10
   go_wp2_with fail
   generalize ((w.alloc (.cells #[.int .u8 (d : Int), .int .i64 qw, .int .i64 kind, .string user, .int .i64 id, .int .i64 st, .int .i64 pr, .int .u64 ttl, .slice A us.length c, .int .u64 by_] 39)).alloc (.cells #[.int .i64 0, .slice none 0 0, .slice none 0 0, .bool false] 43)) = w1 at *
   refine (do_ ⟨kind, user, id, st, pr, ttl, A, c, us⟩ H1.out HO.out hb hbw1 qw IN1.out).mono ?_
   generalize a.do_ qw ⟨kind, user, id, st, pr, ttl, A, c, us⟩ = pr2 at *
   rintro e w3 ⟨A1, c1, A2, c2, rfl, hs1, hs2, S', hT, hG⟩
   have l2 := HR1.out.lt
   have HS1 := Lib.hid hs1
   have HS2 := Lib.hid hs2
   clear hs1 hs2
   have HR3 := Lib.hid (hG.is HR1.out NR.out)
   have H3 := Lib.hid hT
   have G3 := Lib.hid (G1.out.trans hG)
   have N3 : ¬ S' (w.heap.size + 1) := fun hx => (hG.new _ hx).elim NR.out (fun h' => by have := HR1.out.lt; omega)
   clear hT hG
   have lr := HR3.out.lt
   have r0 := HR3.out.cell' (i := 0) rfl
   have r1 := HR3.out.cell' (i := 1) rfl
   have r2 := HR3.out.cell' (i := 2) rfl
   have r3 := HR3.out.cell' (i := 3) rfl
   have q0 := HR3.out.frozen 0
   have q1 := HR3.out.frozen 1
   have q2 := HR3.out.frozen 2
   have q3 := HR3.out.frozen 3
   go_wp2_with fail
   have HW := wrap HR3.out H3.out G3.out (Nat.le_succ _) N3 (.int .i64 pr2.2.err) (.slice A1 pr2.2.vals.length c1) (.slice A2 pr2.2.evs.length c2) (.bool pr2.2.lost)
   generalize (((w3.setCell ⟨w.heap.size + 1, 0, none⟩ (.int .i64 pr2.2.err)).setCell ⟨w.heap.size + 1, 1, none⟩ (.slice A1 pr2.2.vals.length c1)).setCell ⟨w.heap.size + 1, 2, none⟩ (.slice A2 pr2.2.evs.length c2)).setCell ⟨w.heap.size + 1, 3, none⟩ (.bool pr2.2.lost) = wz at *
   have n0 := HW.box.cell' (i := 0) rfl
   have n1 := HW.box.cell' (i := 1) rfl
   have n2 := HW.box.cell' (i := 2) rfl
   have n3 := HW.box.cell' (i := 3) rfl
   refine bodyPost_ret (v := .agg #[.int .i64 pr2.2.err, .slice A1 pr2.2.vals.length c1, .slice A2 pr2.2.evs.length c2, .bool pr2.2.lost]) (by simp [results, Tryz.results10, go_sem, n0, n1, n2, n3]) rfl ?_
   exact ⟨A1, c1, A2, c2, rfl, (HW.seq l2 HS1.out).from_ (by omega), (HW.seq l2 HS2.out).from_ (by omega), S', HW.tab, HW.gone⟩
end
end Mod
end Go.Proofs.YtohdlnefgieenaaGreat
