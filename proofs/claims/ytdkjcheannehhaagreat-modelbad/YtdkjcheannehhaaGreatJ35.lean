/-
  The statements' own sizes and example (layer 10).
-/
import Derived.Test.YtdkjcheannehhaaGreatJ34
import Derived.Test.YtdkjcheannehhaaGreatJ33
import Derived.Test.YtdkjcheannehhaaGreatJ31
import Derived.Test.YtdkjcheannehhaaGreatJ16
namespace Go.Proofs.YtdkjcheannehhaaGreat
open Go.RowKit Go.Shelf
attribute [local go_sem] Oper.semAt_some
namespace Mod
open Go.Law Feed Bk
def small : Cf := ⟨3, 2, 16, 4, 1, 100, 0⟩
theorem small_right : small.right = true := by decide
set_option maxRecDepth 100000 in
set_option maxHeartbeats 1000000 in
theorem small_ (w : World) : Calls Tryz.prog 31 #[] w fun e w' => e = .returned small.val ∧ Below w.heap.size w w' := by
  go_enter Tryz.func31, Tryz.ntmps31
  go_wp2_with fail
  exact bodyPost_ret (v := small.val) (by simp [results, Tryz.results31, go_sem, small]) rfl ⟨rfl, (Below.refl _ w).alloc (Nat.le_refl _) _⟩
def ann : ByteArray := ⟨#[97, 110, 110]⟩
def exW : OpW := ⟨6, ann, 0, 0, 0, 0, none, 0, []⟩
def exS : OpW := ⟨1, ann, 0, 2, 0, 9, none, 0, []⟩
def exP : OpW := ⟨8, ⟨#[]⟩, 0, 0, 0, 0, none, 0, []⟩
def ex2 : Mo := (((Mo.new small).do_ 1 exW).1.do_ 0 exS).1
theorem ex_evs : (ex2.do_ 1 exP).2.evs = [⟨ann, 0, 0, 0, 2, 0, 1, 1⟩] := by decide +kernel
theorem lit_in (kind : Int) (u : ByteArray) (id st pr ttl : Int) (w : World) (hu : u.size ≤ maxLen) (ht : 0 ≤ ttl ∧ ttl ≤ 18446744073709551615) : OpW.In ⟨kind, u, id, st, pr, ttl, none, 0, []⟩ w := ⟨fun h => absurd rfl h, Nat.zero_le _, fun _ h => (by cases h), hu, ht⟩
theorem new_small_ok : (Mo.new small).Ok 0 := new_ok small small_right Door.U0
/-- behind an op that a table was asked: it goes on lying in its blocks -/
structure Live (w0 w : World) (base : Nat) (S : Nat → Prop) (m : Nat) (a : Mo) : Prop where
  tab : Tab w base S m a
  bel : Below w0.heap.size w0 w
  new : ∀ x, S x → w0.heap.size ≤ x
theorem Live.gone {w0 w w' : World} {base m : Nat} {S S' : Nat → Prop} {a a' : Mo} (h : Live w0 w base S m a) (hT : Tab w' base S' m a') (hG : Gone w S w' S') : Live w0 w' base S' m a' :=
  ⟨hT, hG.below h.new h.bel h.bel.size, fun x hx => (hG.new x hx).elim (h.new x) (fun h' => Nat.le_trans h.bel.size h')⟩
theorem Live.below {w0 w w' : World} {base m : Nat} {S : Nat → Prop} {a : Mo} (h : Live w0 w base S m a) (hb : Below w.heap.size w w') : Live w0 w' base S m a :=
  ⟨h.tab.below hb, h.bel.trans (hb.mono h.bel.size), h.new⟩
set_option maxRecDepth 100000 in
set_option maxHeartbeats 4000000 in
theorem awake (w : World) : Calls Tryz.prog 11 #[] w fun e w' => e = .returned (.bool true) ∧ Below w.heap.size w w' := by
  go_enter Tryz.func11, Tryz.ntmps11
  go_wp2_with fail
  refine (small_ w).mono ?_
  rintro e w1 ⟨rfl, b1⟩
  have HB1 := Lib.hid b1
  clear b1
  go_wp2_with fail
  refine (new_yes small w1 (base := w.heap.size) HB1.out.size small_right).mono ?_
  rintro e w2 ⟨m, S, rfl, hT, hS, hB⟩
  have H2 : Hid (Live w w2 w.heap.size S m (Mo.new small)) := ⟨hT, HB1.out.trans (hB.mono HB1.out.size), fun x hx => Nat.le_trans HB1.out.size (hS x hx)⟩
  clear hT hS hB HB1
  go_wp2_with fail
  refine (do_ exW H2.out.tab new_small_ok (by omega) H2.out.bel.size 1 (lit_in _ _ _ _ _ _ _ (by decide) (by decide))).mono ?_
  rintro e w3 ⟨A1, c1, A2, c2, rfl, _, _, S3, hT, hG⟩
  have H3 := Lib.hid (H2.out.gone hT hG)
  have O3 := Lib.hid (do_ok new_small_ok 1 exW)
  clear hT hG H2
  go_wp2_with fail
  refine (do_ exS H3.out.tab O3.out (by omega) H3.out.bel.size 0 (lit_in _ _ _ _ _ _ _ (by decide) (by decide))).mono ?_
  rintro e w4 ⟨A1', c1', A2', c2', rfl, _, _, S4, hT, hG⟩
  have H4 : Hid (Live w w4 w.heap.size S4 m ex2) := H3.out.gone hT hG
  have O4 : Hid (ex2.Ok 2) := do_ok O3.out 0 exS
  clear hT hG H3 O3
  go_wp2_with fail
  refine (do_ exP H4.out.tab O4.out (by omega) H4.out.bel.size 1 (lit_in _ _ _ _ _ _ _ (by decide) (by decide))).mono ?_
  rintro e w5 ⟨A5, c5, A6, c6, rfl, _, hs, S5, hT, hG⟩
  rw [ex_evs] at hs ⊢
  obtain ⟨gb, off, rfl, _, hgb, e0, e1, e2, e3, e4, e5, e6, e7⟩ := hs.ev (i := 0) (by simp)
  simp at e0 e1 e2 e3 e4 e5 e6 e7
  change _ = some (Value.string ⟨#[97, 110, 110]⟩) at e0
  have HB5 := Lib.hid (H4.out.gone hT hG).bel
  clear hT hG H4 O4 hs
  go_wp2_with fail
  go_ret
  exact ⟨rfl, HB5.out.alloc HB5.out.size _⟩
end Mod
end Go.Proofs.YtdkjcheannehhaaGreat
/-
  Acts of layer 10's statements in memory, out of the reading of an argument: ops with their users.
-/
namespace Go.Law
open Go.RowKit Go.ChangeShapes Go.WideShapes Go.ChangeAt
def cellsW (q : OpW) : List Value := [.int .i64 q.kind, .string q.user, .int .i64 q.id, .int .i64 q.st, .int .i64 q.pr, .int .u64 q.ttl, .slice q.A q.us.length q.c]
structure OpW.Good (q : OpW) (W : World) : Prop where
  in_ : q.In W
  kind : (Lit.int .i64 q.kind).wf = true
  id : (Lit.int .i64 q.id).wf = true
  st : (Lit.int .i64 q.st).wf = true
  pr : (Lit.int .i64 q.pr).wf = true
  cap : q.us.length ≤ q.c
section
variable {H : Type} {enc : TypeId × Value → H} {P : Program} {W : World} {base : Nat} {sp : Nat → Bool} {hd : Bool} {fuel : Nat} {cs : List Value} {x : DataW H × List MemPlace}
theorem flat_str : ∀ l : List ByteArray, l.flatMap (fun u => [Value.string u]) = l.map .string
  | [] => rfl
  | u :: r => by rw [List.flatMap_cons, List.map_cons, flat_str r]; rfl
theorem dec_opW {o ts : TypeId} {g0 g1 g2 g3 g4 g5 g6 : Field} (ho : P.underlying o = some (.struct #[g0, g1, g2, g3, g4, g5, g6])) (co : P.cellsOf o = 7)
    (o0 : g0.offset = 0) (o1 : g1.offset = 1) (o2 : g2.offset = 2) (o3 : g3.offset = 3) (o4 : g4.offset = 4) (o5 : g5.offset = 5) (o6 : g6.offset = 6)
    (c0 : P.cellsOf g0.type = 1) (c1 : P.cellsOf g1.type = 1) (c2 : P.cellsOf g2.type = 1) (c3 : P.cellsOf g3.type = 1) (c4 : P.cellsOf g4.type = 1) (c5 : P.cellsOf g5.type = 1) (c6 : P.cellsOf g6.type = 1)
    (u0 : P.underlying g0.type = some (.int .i64)) (u1 : P.underlying g1.type = some .string) (u2 : P.underlying g2.type = some (.int .i64)) (u3 : P.underlying g3.type = some (.int .i64)) (u4 : P.underlying g4.type = some (.int .i64)) (u5 : P.underlying g5.type = some (.int .u64)) (u6 : P.underlying g6.type = some (.slice ts)) (us : P.underlying ts = some .string) (cs1 : P.cellsOf ts = 1)
    (h : DataW.trod enc P W base sp hd fuel o cs = some x) : ∃ q : OpW, cs = cellsW q ∧ q.Good W := by
  obtain ⟨xs, n, _, _, hl, hxl, hf⟩ := DataW.trod_struct ho h
  rw [co] at hl
  match cs, hl, xs, hxl with
  | [v0, v1, v2, v3, v4, v5, v6], _, [y0, y1, y2, y3, y4, y5, y6], _ =>
    have k0 := hf 0 g0 rfl
    have k1 := hf 1 g1 rfl
    have k2 := hf 2 g2 rfl
    have k3 := hf 3 g3 rfl
    have k4 := hf 4 g4 rfl
    have k5 := hf 5 g5 rfl
    have k6 := hf 6 g6 rfl
    simp [o0, o1, o2, o3, o4, o5, o6, c0, c1, c2, c3, c4, c5, c6] at k0 k1 k2 k3 k4 k5 k6
    obtain ⟨a0, e0, _, w0⟩ := DataW.trod_int u0 k0
    obtain ⟨a1, e1, _, w1⟩ := DataW.trod_string u1 k1
    obtain ⟨a2, e2, _, w2⟩ := DataW.trod_int u2 k2
    obtain ⟨a3, e3, _, w3⟩ := DataW.trod_int u3 k3
    obtain ⟨a4, e4, _, w4⟩ := DataW.trod_int u4 k4
    obtain ⟨a5, e5, _, w5⟩ := DataW.trod_int u5 k5
    obtain ⟨A, c, l, e6, hc, hs, hl6, hq⟩ := open_rowsT (Good := fun u : ByteArray => u.size ≤ maxLen) (fun u => [Value.string u]) (sz := 1) (fun _ => rfl) u6 cs1 (by decide) (fun fuel cs x hf => by
      obtain ⟨z, e, _, hz⟩ := DataW.trod_string us hf
      exact ⟨z, e, hz⟩) k6
    simp at e0 e1 e2 e3 e4 e5 e6
    subst e0 e1 e2 e3 e4 e5 e6
    refine ⟨⟨a0, a1, a2, a3, a4, a5, A, c, l⟩, rfl, ⟨?_, hl6, hq, w1, bounds_u64 w5⟩, w0, w2, w3, w4, hc⟩
    rw [← flat_str]
    exact hs
end
/-- an act: what it does, whose, what is asked, how much -/
structure AcM where
  do_ : Int
  who : Int
  op : OpW
  by_ : Int
def cellsM (q : AcM) : List Value := .int .u8 q.do_ :: .int .i64 q.who :: (cellsW q.op ++ [.int .u64 q.by_])
structure AcM.Good (q : AcM) (W : World) : Prop where
  do_ : (Lit.int .u8 q.do_).wf = true
  who : (Lit.int .i64 q.who).wf = true
  op : q.op.Good W
  by_ : (Lit.int .u64 q.by_).wf = true
section
variable {H : Type} {enc : TypeId × Value → H} {P : Program} {W : World} {base : Nat} {sp : Nat → Bool} {hd : Bool} {fuel : Nat} {cs : List Value} {x : DataW H × List MemPlace}
theorem dec_acM {e : TypeId} {f0 f1 f2 f3 : Field} (he : P.underlying e = some (.struct #[f0, f1, f2, f3])) (ce : P.cellsOf e = 10) (o0 : f0.offset = 0) (o1 : f1.offset = 1) (o2 : f2.offset = 2) (o3 : f3.offset = 9)
    (c0 : P.cellsOf f0.type = 1) (c1 : P.cellsOf f1.type = 1) (c2 : P.cellsOf f2.type = 7) (c3 : P.cellsOf f3.type = 1) (u0 : P.underlying f0.type = some (.int .u8)) (u1 : P.underlying f1.type = some (.int .i64)) (u3 : P.underlying f3.type = some (.int .u64))
    (dop : ∀ fuel cs x, DataW.trod enc P W base sp hd fuel f2.type cs = some x → ∃ q : OpW, cs = cellsW q ∧ q.Good W)
    (h : DataW.trod enc P W base sp hd fuel e cs = some x) : ∃ q : AcM, cs = cellsM q ∧ q.Good W := by
  obtain ⟨xs, n, _, _, hl, hxl, hf⟩ := DataW.trod_struct he h
  rw [ce] at hl
  match cs, hl, xs, hxl with
  | [v0, v1, v2, v3, v4, v5, v6, v7, v8, v9], _, [y0, y1, y2, y3], _ =>
    have k0 := hf 0 f0 rfl
    have k1 := hf 1 f1 rfl
    have k2 := hf 2 f2 rfl
    have k3 := hf 3 f3 rfl
    simp [o0, o1, o2, o3, c0, c1, c2, c3] at k0 k1 k2 k3
    obtain ⟨a0, e0, _, w0⟩ := DataW.trod_int u0 k0
    obtain ⟨a1, e1, _, w1⟩ := DataW.trod_int u1 k1
    obtain ⟨q, e2, g2⟩ := dop _ _ _ k2
    obtain ⟨a3, e3, _, w3⟩ := DataW.trod_int u3 k3
    simp at e0 e1 e3
    subst e0 e1 e3
    exact ⟨⟨a0, a1, q, a3⟩, by unfold cellsM; rw [← e2]; rfl, w0, w1, g2, w3⟩
end
end Go.Law
namespace Go.Proofs.YtdkjcheannehhaaGreat
open Go.RowKit Go.Shelf Go.ChangeShapes Go.WideShapes Go.ChangeAt
namespace Mod
open Go.Law
variable {H : Type} {enc : TypeId × Value → H} {W : World} {base b0 : Nat} {sp : Nat → Bool} {hd : Bool} {v : Value} {d : DataW H} {p : List MemPlace}
theorem decOp (fuel : Nat) (cs : List Value) (x : DataW H × List MemPlace) (h : DataW.trod enc Tryz.prog W base sp hd fuel 37 cs = some x) : ∃ q : OpW, cs = cellsW q ∧ q.Good W :=
  dec_opW Tryz.underlying37 (by kernel_rfl) rfl rfl rfl rfl rfl rfl rfl (by kernel_rfl) (by kernel_rfl) (by kernel_rfl) (by kernel_rfl) (by kernel_rfl) (by kernel_rfl) (by kernel_rfl)
    Tryz.underlying3 Tryz.underlying9 Tryz.underlying3 Tryz.underlying3 Tryz.underlying3 Tryz.underlying22 Tryz.underlying35 Tryz.underlying9 (by kernel_rfl) h
theorem decAct (fuel : Nat) (cs : List Value) (x : DataW H × List MemPlace) (h : DataW.trod enc Tryz.prog W base sp hd fuel 39 cs = some x) : ∃ q : AcM, cs = cellsM q ∧ q.Good W :=
  dec_acM Tryz.underlying39 (by kernel_rfl) rfl rfl rfl rfl (by kernel_rfl) (by kernel_rfl) (by kernel_rfl) (by kernel_rfl) Tryz.underlying5 Tryz.underlying3 Tryz.underlying22 decOp h
theorem cellsM_length (q : AcM) : (cellsM q).length = 10 := rfl
set_option maxRecDepth 100000 in
theorem open_acts (hv : Value.okWide Tryz.prog W .any b0 25 v) (h : DataW.Trod enc Tryz.prog W base sp hd 25 v d p) :
    ∃ (A : Option Addr) (c : Nat) (l : List AcM), v = .slice A l.length c ∧ Seq W 0 W.heap.size A (l.flatMap cellsM) ∧ l.length ≤ maxLen ∧ ∀ q ∈ l, q.Good W :=
  open_rows cellsM (sz := 10) (fun _ => rfl) (Good := fun q => q.Good W) Tryz.underlying25 (by kernel_rfl) (by decide) decAct hv h
end Mod
end Go.Proofs.YtdkjcheannehhaaGreat
