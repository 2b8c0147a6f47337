/-
  What is wrong with any script.
-/
import Derived.Test.YtlkbfnpncomifaaDoorOcAwk
import Derived.Test.YtlkbfnpncomifaaDoorOcMem
import Derived.Test.YtlkbfnpncomifaaDoorRoundHeld
import Derived.Test.YtlkbfnpncomifaaDoorOpDec
namespace Go.Law
open Go.RowKit Go.ChangeShapes Go.WideShapes Go.ChangeAt Go.Proofs.YtlkbfnpncomifaaDoor.Opx
section
variable {H : Type} {enc : TypeId × Value → H} {P : Program} {W : World} {base : Nat} {sp : Nat → Bool} {hd : Bool} {fuel : Nat} {cs : List Value} {x : DataW H × List MemPlace}
/-- a row, each element's cells being told by what is known of one -/
theorem dec_conf {o : TypeId} {g0 g1 g2 g3 g4 g5 g6 : Field} (ho : P.underlying o = some (.struct #[g0, g1, g2, g3, g4, g5, g6])) (co : P.cellsOf o = 7)
    (o0 : g0.offset = 0) (o1 : g1.offset = 1) (o2 : g2.offset = 2) (o3 : g3.offset = 3) (o4 : g4.offset = 4) (o5 : g5.offset = 5) (o6 : g6.offset = 6)
    (c0 : P.cellsOf g0.type = 1) (c1 : P.cellsOf g1.type = 1) (c2 : P.cellsOf g2.type = 1) (c3 : P.cellsOf g3.type = 1) (c4 : P.cellsOf g4.type = 1) (c5 : P.cellsOf g5.type = 1) (c6 : P.cellsOf g6.type = 1)
    (u0 : P.underlying g0.type = some (.int .i64)) (u1 : P.underlying g1.type = some (.int .i64)) (u2 : P.underlying g2.type = some (.int .i64)) (u3 : P.underlying g3.type = some (.int .i64)) (u4 : P.underlying g4.type = some (.int .i64)) (u5 : P.underlying g5.type = some (.int .u64)) (u6 : P.underlying g6.type = some (.int .u64))
    (h : DataW.trod enc P W base sp hd fuel o cs = some x) : ∃ q : Cf, cs = [.int .i64 q.st, .int .i64 q.se, .int .i64 q.qu, .int .i64 q.wa, .int .i64 q.re, .int .u64 q.ep, .int .u64 q.sta] := by
  obtain ⟨xs, n, _, _, hl, hxl, hf⟩ := DataW.trod_struct ho h
  rw [co] at hl
  match cs, hl, xs, hxl with
  | [v0, v1, v2, v3, v4, v5, v6], _, [y0, y1, y2, y3, y4, y5, y6], _ =>
    have k0 := hf 0 g0 rfl
    have k1 := hf 1 g1 rfl
    have k2 := hf 2 g2 rfl
    have k3 := hf 3 g3 rfl
    have k4 := hf 4 g4 rfl
    have k5 := hf 5 g5 rfl
    have k6 := hf 6 g6 rfl
    simp [o0, o1, o2, o3, o4, o5, o6, c0, c1, c2, c3, c4, c5, c6] at k0 k1 k2 k3 k4 k5 k6
    obtain ⟨a0, e0, _, w0⟩ := DataW.trod_int u0 k0
    obtain ⟨a1, e1, _, w1⟩ := DataW.trod_int u1 k1
    obtain ⟨a2, e2, _, w2⟩ := DataW.trod_int u2 k2
    obtain ⟨a3, e3, _, w3⟩ := DataW.trod_int u3 k3
    obtain ⟨a4, e4, _, w4⟩ := DataW.trod_int u4 k4
    obtain ⟨a5, e5, _, w5⟩ := DataW.trod_int u5 k5
    obtain ⟨a6, e6, _, w6⟩ := DataW.trod_int u6 k6
    simp at e0 e1 e2 e3 e4 e5 e6
    subst e0 e1 e2 e3 e4 e5 e6
    exact ⟨⟨a0, a1, a2, a3, a4, a5, a6⟩, rfl⟩
end
end Go.Law
namespace Go.Law
open Go.RowKit Go.ChangeShapes Go.WideShapes Go.ChangeAt Go.Proofs.YtlkbfnpncomifaaDoor.Opx
section
variable {H : Type} {enc : TypeId × Value → H} {P : Program} {W : World} {base : Nat} {sp : Nat → Bool} {hd : Bool} {fuel : Nat} {cs : List Value} {x : DataW H × List MemPlace}
theorem dec_pk {o : TypeId} {g0 g1 g2 : Field} (ho : P.underlying o = some (.struct #[g0, g1, g2])) (co : P.cellsOf o = 3) (o0 : g0.offset = 0) (o1 : g1.offset = 1) (o2 : g2.offset = 2)
    (c0 : P.cellsOf g0.type = 1) (c1 : P.cellsOf g1.type = 1) (c2 : P.cellsOf g2.type = 1) (u0 : P.underlying g0.type = some (.int .i64)) (u1 : P.underlying g1.type = some (.int .i64)) (u2 : P.underlying g2.type = some (.int .u64))
    (h : DataW.trod enc P W base sp hd fuel o cs = some x) : ∃ q : Pk, cs = cellsPk q ∧ True := by
  obtain ⟨xs, n, _, _, hl, hxl, hf⟩ := DataW.trod_struct ho h
  rw [co] at hl
  match cs, hl, xs, hxl with
  | [v0, v1, v2], _, [y0, y1, y2], _ =>
    have k0 := hf 0 g0 rfl
    have k1 := hf 1 g1 rfl
    have k2 := hf 2 g2 rfl
    simp [o0, o1, o2, c0, c1, c2] at k0 k1 k2
    obtain ⟨a0, e0, _, w0⟩ := DataW.trod_int u0 k0
    obtain ⟨a1, e1, _, w1⟩ := DataW.trod_int u1 k1
    obtain ⟨a2, e2, _, w2⟩ := DataW.trod_int u2 k2
    simp at e0 e1 e2
    subst e0 e1 e2
    exact ⟨(a0, a1, a2), rfl, trivial⟩
/-- a script as it is handed in: its sizes, its clients' rows, its picks' row -/
structure ScrV where
  q : Cf
  C : Option Addr
  vs : List Ln
  cC : Nat
  K : Option Addr
  nK : Nat
  cK : Nat
def ScrV.cells (s : ScrV) : List Value := [.int .i64 s.q.st, .int .i64 s.q.se, .int .i64 s.q.qu, .int .i64 s.q.wa, .int .i64 s.q.re, .int .u64 s.q.ep, .int .u64 s.q.sta, .slice s.C s.vs.length s.cC, .slice s.K s.nK s.cK]
structure ScrV.In (s : ScrV) (w : World) : Prop where
  row : Seq w 0 w.heap.size s.C (s.vs.map sl)
  len : s.vs.length ≤ maxLen
  each : ∀ u ∈ s.vs, u.2.1 ≤ maxLen
  pks : s.nK ≤ maxLen
theorem flat_sl : ∀ l : List Ln, l.flatMap (fun u => [sl u]) = l.map sl
  | [] => rfl
  | u :: r => by rw [List.flatMap_cons, List.map_cons, flat_sl r]; rfl
theorem dec_scr {o tc tp : TypeId} {f0 f1 f2 : Field} (ho : P.underlying o = some (.struct #[f0, f1, f2])) (co : P.cellsOf o = 9) (o0 : f0.offset = 0) (o1 : f1.offset = 7) (o2 : f2.offset = 8)
    (c0 : P.cellsOf f0.type = 7) (c1 : P.cellsOf f1.type = 1) (c2 : P.cellsOf f2.type = 1) (u1 : P.underlying f1.type = some (.slice tc)) (u2 : P.underlying f2.type = some (.slice tp)) (cc : P.cellsOf tc = 1) (cp : P.cellsOf tp = 3)
    (d0 : ∀ fuel cs x, DataW.trod enc P W base sp hd fuel f0.type cs = some x → ∃ q : Cf, cs = [.int .i64 q.st, .int .i64 q.se, .int .i64 q.qu, .int .i64 q.wa, .int .i64 q.re, .int .u64 q.ep, .int .u64 q.sta])
    (d1 : ∀ fuel cs x, DataW.trod enc P W base sp hd fuel tc cs = some x → ∃ q : Ln, cs = [sl q] ∧ q.2.1 ≤ maxLen)
    (d2 : ∀ fuel cs x, DataW.trod enc P W base sp hd fuel tp cs = some x → ∃ q : Pk, cs = cellsPk q ∧ True)
    (h : DataW.trod enc P W base sp hd fuel o cs = some x) : ∃ s : ScrV, cs = s.cells ∧ s.In W := by
  obtain ⟨xs, n, _, _, hl, hxl, hf⟩ := DataW.trod_struct ho h
  rw [co] at hl
  match cs, hl, xs, hxl with
  | [v0, v1, v2, v3, v4, v5, v6, v7, v8], _, [y0, y1, y2], _ =>
    have k0 := hf 0 f0 rfl
    have k1 := hf 1 f1 rfl
    have k2 := hf 2 f2 rfl
    simp [o0, o1, o2, c0, c1, c2] at k0 k1 k2
    obtain ⟨q, e0⟩ := d0 _ _ _ k0
    obtain ⟨C, cC, l1, e1, _, s1, hl1, q1⟩ := open_rowsT (fun u : Ln => [sl u]) (sz := 1) (fun _ => rfl) u1 cc (by decide) d1 k1
    obtain ⟨K, cK, l2, e2, _, s2, hl2, q2⟩ := open_rowsT cellsPk (sz := 3) (fun _ => rfl) u2 cp (by decide) d2 k2
    simp at e0 e1 e2
    obtain ⟨rfl, rfl, rfl, rfl, rfl, rfl, rfl⟩ := e0
    subst e1 e2
    rw [flat_sl] at s1
    exact ⟨⟨q, C, l1, cC, K, l2.length, cK⟩, rfl, ⟨s1, hl1, q1, hl2⟩⟩
end
end Go.Law
namespace Go.Proofs.YtlkbfnpncomifaaDoor
open Go.RowKit Go.ChangeShapes Go.WideShapes Go.ChangeAt
attribute [local go_sem] Oper.semAt_some
namespace Opx
open Go.Law
section
variable {H : Type} {enc : TypeId × Value → H} {W : World} {base : Nat} {sp : Nat → Bool} {hd : Bool}
theorem decRow (fuel : Nat) (cs : List Value) (x : DataW H × List MemPlace) (h : DataW.trod enc Tryd.prog W base sp hd fuel 43 cs = some x) : ∃ q : Ln, cs = [sl q] ∧ q.2.1 ≤ maxLen := by
  obtain ⟨A, c, l, e, _, _, hl, _⟩ := open_rowsT cellsW (sz := 7) (fun _ => rfl) Tryd.underlying43 (by kernel_rfl) (by decide) (fun f c x h => decOp f c x h) h
  exact ⟨(A, l.length, c), e, hl⟩
theorem decScr (fuel : Nat) (cs : List Value) (x : DataW H × List MemPlace) (h : DataW.trod enc Tryd.prog W base sp hd fuel 31 cs = some x) : ∃ s : ScrV, cs = s.cells ∧ s.In W :=
  dec_scr Tryd.underlying31 (by kernel_rfl) rfl rfl rfl (by kernel_rfl) (by kernel_rfl) (by kernel_rfl) Tryd.underlying28 Tryd.underlying29 (by kernel_rfl) (by kernel_rfl)
    (fun f c x h => dec_conf Tryd.underlying27 (by kernel_rfl) rfl rfl rfl rfl rfl rfl rfl (by kernel_rfl) (by kernel_rfl) (by kernel_rfl) (by kernel_rfl) (by kernel_rfl) (by kernel_rfl) (by kernel_rfl) Tryd.underlying3 Tryd.underlying3 Tryd.underlying3 Tryd.underlying3 Tryd.underlying3 Tryd.underlying25 Tryd.underlying25 h)
    (fun f c x h => decRow f c x h)
    (fun f c x h => dec_pk Tryd.underlying34 (by kernel_rfl) rfl rfl rfl (by kernel_rfl) (by kernel_rfl) (by kernel_rfl) Tryd.underlying3 Tryd.underlying3 Tryd.underlying25 h) h
theorem open_scr {b0 : Nat} {v : Value} {d : DataW H} {p : List MemPlace}
    (hv : Value.okWide Tryd.prog W .any b0 31 v) (h : DataW.Trod enc Tryd.prog W base sp hd 31 v d p) : ∃ s : ScrV, v = .agg s.cells.toArray ∧ s.In W := by
  obtain ⟨q, e, hg⟩ := open_struct ScrV.cells Tryd.underlying31 decScr hv h
  exact ⟨q, e, hg⟩
end
end Opx
namespace ocodeChecks
open Go.Law Opx
set_option maxRecDepth 100000 in
set_option maxHeartbeats 4000000 in
theorem walk (s : ScrV) (w : World) (hs : s.In w) (hT : Tabs w) :
    Calls Tryd.prog 5 #[.agg s.cells.toArray] w fun e w' => e = .returned (.bool true) ∧ Below w.heap.size w w' := by
  obtain ⟨⟨st, se, qu, wa, re, ep, sta⟩, C, vs, cC, K, nK, cK⟩ := s
  obtain ⟨hr, hl, hz, hk⟩ := hs
  simp only at hr hl hz hk
  show Calls _ _ #[.agg #[.int .i64 st, .int .i64 se, .int .i64 qu, .int .i64 wa, .int .i64 re, .int .u64 ep, .int .u64 sta, .slice C vs.length cC, .slice K nK cK]] _ _
  have bb := (Below.refl w.heap.size w).alloc (Nat.le_refl _) (.cells #[.int .i64 st, .int .i64 se, .int .i64 qu, .int .i64 wa, .int .i64 re, .int .u64 ep, .int .u64 sta, .slice C vs.length cC, .slice K nK cK] 31)
  have HX := Lib.hid (Is.new w 31 #[.int .i64 st, .int .i64 se, .int .i64 qu, .int .i64 wa, .int .i64 re, .int .u64 ep, .int .u64 sta, .slice C vs.length cC, .slice K nK cK] rfl)
  have HB := Lib.hid bb
  have HS := Lib.hid ((hr.below bb).more bb.size)
  have HT := Lib.hid (hT.below bb)
  have HZ := Lib.hid hz
  have HL := Lib.hid hl
  have HK := Lib.hid hk
  unfold maxLen at hl hk
  clear hr hz hT bb
  go_enter Tryd.func5, Tryd.ntmps5
  go_wp2_with fail
  generalize w.alloc (.cells #[.int .i64 st, .int .i64 se, .int .i64 qu, .int .i64 wa, .int .i64 re, .int .u64 ep, .int .u64 sta, .slice C vs.length cC, .slice K nK cK] 31) = w1 at *
  refine (awake w1 HT.out (tab_pos HT.out)).mono ?_
  rintro e w2 ⟨rfl, b2⟩
  have HX2 := Lib.hid (HX.out.below b2 HX.out.lt)
  have HB2 := Lib.hid (HB.out.trans (b2.mono HB.out.size))
  have HS2 := Lib.hid ((HS.out.below b2).more b2.size)
  have HT2 := Lib.hid (HT.out.below b2)
  clear b2 HX HB HS HT
  have x0 := HX2.out.cell' (i := 0) rfl
  have x1 := HX2.out.cell' (i := 1) rfl
  have x2 := HX2.out.cell' (i := 2) rfl
  have x3 := HX2.out.cell' (i := 3) rfl
  have x4 := HX2.out.cell' (i := 4) rfl
  have x5 := HX2.out.cell' (i := 5) rfl
  have x6 := HX2.out.cell' (i := 6) rfl
  have x7 := HX2.out.cell' (i := 7) rfl
  have x8 := HX2.out.cell' (i := 8) rfl
  have lx := HX2.out.lt
  by_cases h1 : 60 < vs.length
  · have d1 : decide ((60 : Int) < (vs.length : Int)) = true := by simp; omega
    go_wp2_with fail
    refine (awake w2 HT2.out (tab_pos HT2.out)).mono ?_
    rintro e w3 ⟨rfl, b3⟩
    have HB3 := Lib.hid (HB2.out.trans (b3.mono HB2.out.size))
    clear b3
    go_wp2_with fail
    go_ret
    exact ⟨rfl, HB3.out⟩
  · have d1 : decide ((60 : Int) < (vs.length : Int)) = false := by simp; omega
    by_cases h2 : 30000 < nK
    · have d2 : decide ((30000 : Int) < (nK : Int)) = true := by simp; omega
      go_wp2_with fail
      refine (awake w2 HT2.out (tab_pos HT2.out)).mono ?_
      rintro e w3 ⟨rfl, b3⟩
      have HB3 := Lib.hid (HB2.out.trans (b3.mono HB2.out.size))
      clear b3
      go_wp2_with fail
      go_ret
      exact ⟨rfl, HB3.out⟩
    · have d2 : decide ((30000 : Int) < (nK : Int)) = false := by simp; omega
      go_wp2_with fail
      go_loop [3] (fun i => ∃ j : Nat, j ≤ vs.length ∧ i = .int .i64 j) (fun i => vs.length - (RowKit.intOf i).toNat)
      case atStart => exact ⟨0, Nat.zero_le _, rfl⟩
      case round =>
        obtain ⟨j, hj, rfl⟩ := hrel
        by_cases hlt : j < vs.length
        · have e1 : decide ((j : Int) < (vs.length : Int)) = true := by simp; omega
          obtain ⟨b, off, hC, _, hb, c0⟩ := HS2.out.at (i := j) (by simpa using hlt)
          rw [List.getElem_map] at c0
          have hz1 := HZ.out _ (List.getElem_mem hlt)
          generalize vs[j] = u at *
          obtain ⟨A1, n1, c1⟩ := u
          unfold maxLen at hz1
          have c0' : w2.cell? ⟨b, off + j, none⟩ = some (.slice A1 n1 c1) := c0
          clear c0
          subst hC
          simp only at hz1
          by_cases hu : 100 < n1
          · have e2 : decide ((100 : Int) < (n1 : Int)) = true := by simp; omega
            go_wp2_with fail
            go_ret
            exact ⟨rfl, HB2.out⟩
          · have e2 : decide ((100 : Int) < (n1 : Int)) = false := by simp; omega
            go_wp2_with fail
            go_round
            case rel => exact ⟨j + 1, by omega, by go_num⟩
            case measure => simp [RowKit.intOf]; omega
        · have e1 : decide ((j : Int) < (vs.length : Int)) = false := by simp; omega
          obtain ⟨r, hr⟩ : ∃ r, checkI ⟨st, se, qu, wa, re, ep, sta⟩ vs nK = r := ⟨_, rfl⟩
          have HCH := Lib.hid (fun W (hs : Seq W 0 W.heap.size C (vs.map sl)) => check ⟨st, se, qu, wa, re, ep, sta⟩ C vs cC K nK cK W hs HL.out HZ.out HK.out hr)
          have HRC := Lib.hid (fun W (hs : Seq W 0 W.heap.size C (vs.map sl)) => refCheck ⟨st, se, qu, wa, re, ep, sta⟩ C vs cC K nK cK W hs HL.out HZ.out HK.out hr)
          clear hr
          go_wp2_with fail
          refine wp_region_held_drew (S := fun w' => w'.cell? ⟨w.heap.size, 0, none⟩ = some (.int .i64 st) ∧ w'.cell? ⟨w.heap.size, 1, none⟩ = some (.int .i64 se) ∧ w'.cell? ⟨w.heap.size, 2, none⟩ = some (.int .i64 qu) ∧ w'.cell? ⟨w.heap.size, 3, none⟩ = some (.int .i64 wa) ∧ w'.cell? ⟨w.heap.size, 4, none⟩ = some (.int .i64 re) ∧ w'.cell? ⟨w.heap.size, 5, none⟩ = some (.int .u64 ep) ∧ w'.cell? ⟨w.heap.size, 6, none⟩ = some (.int .u64 sta) ∧ w'.cell? ⟨w.heap.size, 7, none⟩ = some (.slice C vs.length cC) ∧ w'.cell? ⟨w.heap.size, 8, none⟩ = some (.slice K nK cK)) (by kernel_rfl) ⟨x0, x1, x2, x3, x4, x5, x6, x7, x8⟩ (fun hS0 => ?_)
          refine wpAnyH_take (i := 0) (oi := { dst := some 33, op := .load 31 (.tmp 1), type := _, pos := _, after := _, guard := _ }) (v := .agg #[.int .i64 st, .int .i64 se, .int .i64 qu, .int .i64 wa, .int .i64 re, .int .u64 ep, .int .u64 sta, .slice C vs.length cC, .slice K nK cK]) rfl (by kernel_rfl) (by kernel_rfl) (by kernel_rfl) (fun _ _ _ h => h) (Or.inl ⟨by rfl, ?_⟩) hS0 ?_
          · intro w' hSw
            obtain ⟨s0, s1, s2, s3, s4, s5, s6, s7, s8⟩ := hSw
            go_simp
          try simp only [Act.put, List.setIfInBounds_toArray, List.set_cons_zero, List.set_cons_succ]
          refine wpAnyH_take (i := 2) (oi := { dst := some 35, op := .load 31 (.tmp 1), type := _, pos := _, after := _, guard := _ }) (v := .agg #[.int .i64 st, .int .i64 se, .int .i64 qu, .int .i64 wa, .int .i64 re, .int .u64 ep, .int .u64 sta, .slice C vs.length cC, .slice K nK cK]) rfl (by kernel_rfl) (by kernel_rfl) (by kernel_rfl) (fun _ _ _ h => h) (Or.inl ⟨by rfl, ?_⟩) hS0 ?_
          · intro w' hSw
            obtain ⟨s0, s1, s2, s3, s4, s5, s6, s7, s8⟩ := hSw
            go_simp
          try simp only [Act.put, List.setIfInBounds_toArray, List.set_cons_zero, List.set_cons_succ]
          have bd := Law.below_drewN (Below.refl w2.heap.size w2) 1
          have HX7 : Hid (Is w2.drew w.heap.size 31 #[.int .i64 st, .int .i64 se, .int .i64 qu, .int .i64 wa, .int .i64 re, .int .u64 ep, .int .u64 sta, .slice C vs.length cC, .slice K nK cK]) := HX2.out.drewN 1
          have HB7 : Hid (Below w.heap.size w w2.drew) := Lib.hid (Law.below_drewN HB2.out 1)
          have HS7 : Hid (Seq w2.drew 0 w2.drew.heap.size C (vs.map sl)) := Lib.hid ((HS2.out.below bd).more bd.size)
          clear bd
          refine wpAnyH_ready (rs := [1]) (by kernel_rfl) (by simp) ?_
          refine AllReadyH.cons (o := { dst := some 34, op := .call { callee := .value (.func 17), args := #[.tmp 33], argTypes := _ }, type := _, pos := _, after := _, guard := _ }) rfl (fun K hK => ?_) AllReadyH.nil
          go_simp
          refine Calls.mono (HCH.out w2.drew HS7.out) ?_
          rintro e w8 ⟨rfl, b8⟩
          have HX8 := Lib.hid (HX7.out.below b8 HX7.out.lt)
          have HB8 := Lib.hid (HB7.out.trans (b8.mono HB7.out.size))
          have HS8 := Lib.hid ((HS7.out.below b8).more b8.size)
          go_wp2_with fail
          refine hK.out _ _ ⟨HX8.out.cell' rfl, HX8.out.cell' rfl, HX8.out.cell' rfl, HX8.out.cell' rfl, HX8.out.cell' rfl, HX8.out.cell' rfl, HX8.out.cell' rfl, HX8.out.cell' rfl, HX8.out.cell' rfl⟩ (fun hS1 => ?_)
          clear hK K
          try simp only [Act.put, List.setIfInBounds_toArray, List.set_cons_zero, List.set_cons_succ]
          refine wpAnyH_ready (rs := [3]) (by kernel_rfl) (by simp) ?_
          refine AllReadyH.cons (o := { dst := some 36, op := .call { callee := .value (.func 18), args := #[.tmp 35], argTypes := _ }, type := _, pos := _, after := _, guard := _ }) rfl (fun K hK => ?_) AllReadyH.nil
          go_simp
          refine Calls.mono (HRC.out w8 HS8.out) ?_
          rintro e w9 ⟨rfl, b9⟩
          have HX9 := Lib.hid (HX8.out.below b9 HX8.out.lt)
          have HB9 := Lib.hid (HB8.out.trans (b9.mono HB8.out.size))
          have HS9 := Lib.hid ((HS8.out.below b9).more b9.size)
          go_wp2_with fail
          refine hK.out _ _ ⟨HX9.out.cell' rfl, HX9.out.cell' rfl, HX9.out.cell' rfl, HX9.out.cell' rfl, HX9.out.cell' rfl, HX9.out.cell' rfl, HX9.out.cell' rfl, HX9.out.cell' rfl, HX9.out.cell' rfl⟩ (fun hS2 => ?_)
          clear hK K
          try simp only [Act.put, List.setIfInBounds_toArray, List.set_cons_zero, List.set_cons_succ]
          refine wpAnyH_take (i := 4) (oi := { dst := some 37, op := .binOp .eql 3 (.tmp 34) (.tmp 36) 3, type := _, pos := _, after := _, guard := _ }) (v := .bool true) rfl (by kernel_rfl) (by kernel_rfl) (by kernel_rfl) (fun _ _ _ h => h) (Or.inl ⟨by rfl, ?_⟩) hS2 ?_
          · intro w' hSw
            go_simp
          try simp only [Act.put, List.setIfInBounds_toArray, List.set_cons_zero, List.set_cons_succ]
          refine wpAnyH_take (i := 5) (oi := { dst := some 2, op := .assign (.tmp 37), type := _, pos := _, after := _, guard := _ }) (v := .bool true) rfl (by kernel_rfl) (by kernel_rfl) (by kernel_rfl) (fun _ _ _ h => h) (Or.inl ⟨by rfl, ?_⟩) hS2 ?_
          · intro w' hSw
            go_simp
          try simp only [Act.put, List.setIfInBounds_toArray, List.set_cons_zero, List.set_cons_succ]
          refine wpAnyH_done (by kernel_rfl) ?_ _
          go_wp2_with fail
          go_ret
          exact ⟨rfl, HB9.out⟩
set_option maxRecDepth 100000 in
set_option maxHeartbeats 4000000 in
theorem lifted (os : Os) (started : os.Started) (H : Type) (enc : TypeId × Value → H) :
    ReturnsInHanded {} Tryd.checked os 5 .any (fun w args => (Rows.ocodeChecksSpec.pre enc Tryd.prog Tryd.f5 [] false w args ∧ laidMetH Tryd.prog Rows.ocodeChecksRow.laid w) ∧ sizedMet enc Tryd.prog Tryd.f5 (OpenSpec.ofChange Rows.ocodeChecksSpec) false w args) (Rows.ocodeChecksSpec.post enc Tryd.prog Tryd.f5 false true false false) := by
  refine returnsInHanded_of_change_and (C := Tryd.checked) (X := (fun w _ => laidMetH Tryd.prog Rows.ocodeChecksRow.laid w)) (fun _ _ _ hh h => h.of_heap hh) own started (by kernel_rfl) Tryd.func5
    (ChangeSpec.witness_shaped (enc := enc) (C := Tryd.checked) (os := os) (X := (fun w _ => laidMetH Tryd.prog Rows.ocodeChecksRow.laid w)) false (World.laidAll Tryd.prog os Rows.ocodeChecksRow.laid) #[.agg #[.int .i64 0, .int .i64 0, .int .i64 0, .int .i64 0, .int .i64 0, .int .u64 0, .int .u64 0, .slice none 0 0, .slice none 0 0]] 8 (World.laidAll_os _ _ _)
      (World.shaped_of_ZipB (by kernel_rfl) (by kernel_rfl)) (by kernel_rfl) (by kernel_rfl) (by kernel_rfl)
      (by rw [MakeChecks.laidMetH_plain _ _ _ (by kernel_rfl)]; exact laidMet_laidAll _ (by kernel_rfl) (by kernel_rfl))) ?_
  intro W base args ds gs before hval0 hW _ _ hL _
  have hval : ∀ (j : Nat) t v, Tryd.f5.params[j]? = some t → args[j]? = some v → Value.okWide Tryd.prog W .any base t v := hval0
  have hW' := hW
  obtain ⟨p, q, hA0, hV, rfl, hfz, hnd⟩ := hW
  have hA : DataW.TrodAll enc Tryd.prog W 0 (fun _ => true) true Tryd.f5.params.toList args.toList ds p := hA0
  rw [Tryd.params5] at hA hval
  obtain ⟨v0, vs0, d0, ds0, p0, q0, hargs, rfl, rfl, h0, r0⟩ := trodAll_cons hA
  obtain ⟨rfl, rfl, rfl⟩ := trodAll_nil r0
  obtain rfl : args = #[v0] := by cases args; simp_all
  obtain ⟨s0, rfl, hs0⟩ := Opx.open_scr (hval 0 31 v0 rfl rfl) h0
  rw [MakeChecks.laidMetH_plain _ _ _ (by kernel_rfl)] at hL
  have HTb := Opx.tabs_of hL
  refine (walk s0 W hs0 HTb).mono fun e W' ⟨he, bel⟩ => ?_
  subst he
  exact ⟨_, rfl, Law.post_law laidOut (by kernel_rfl) (by kernel_rfl) Tryd.underlying4 rfl (fun ds h => by match ds, h with | [_], _ => rfl) hW' bel⟩
theorem holds : Rows.OcodeChecksSaid :=
  OpenClaim.holds_of_wide 5 Tryd.f5 rfl rfl rfl rfl rfl rfl rfl ⟨rfl, rfl, rfl, rfl, rfl⟩ rfl rfl rfl rfl rfl (by kernel_rfl) Tryd.func5 (by kernel_rfl)
    (of_decide_eq_true (by kernel_rfl)) (by unfold Func.isWrapper; first | (rw [if_pos (by decide +kernel)]; kernel_rfl) | (rw [if_neg (by decide +kernel)]; exact ⟨rfl, rfl⟩))
    (fun os started H enc _ => lifted os started H enc)
theorem proved : Rows.OcodeChecksCardSaid :=
  Claim7.holds_tied_plain_at .later [] [.data] true (true, "145f7ae6ac2e6a67618b4bf44aa04eb8b865f83cc5ac96450ba10f4f176ff81c") false holds (fun _ h => by cases h) (by kernel_rfl) (fun _ h => by cases h) ocodeChecks_row_tie rfl ⟨rfl, rfl⟩ (by kernel_rfl) rfl
    (fun f fn hf hfn => by
      obtain rfl : f = 5 := Option.some.inj ((show Tryd.prog.funcNamed Rows.ocodeChecksRow.func = some 5 by kernel_rfl).symm.trans hf) |>.symm
      obtain rfl : fn = Tryd.f5 := (Option.some.inj (Tryd.func5.symm.trans hfn)).symm
      exact ⟨by kernel_rfl, fun j t ht => by
        rw [Tryd.params5] at ht
        have hm : t ∈ [31] := by simpa using Array.mem_of_getElem? ht
        have hall : ([31].all fun u => !Tryd.prog.wantsStandIn u) = true := by kernel_rfl
        exact (show Tryd.prog.wantsStandIn t = false by simpa using List.all_eq_true.1 hall t hm)⟩)
    (by kernel_rfl)
#print axioms proved
end ocodeChecks
end Go.Proofs.YtlkbfnpncomifaaDoor
