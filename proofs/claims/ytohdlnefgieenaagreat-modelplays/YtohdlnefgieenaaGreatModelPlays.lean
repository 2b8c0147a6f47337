/-
  ModelPlays: whatever befalls a table of any sizes, the statement's function returns true, and the arguments read as before. No condition.
-/
import Derived.Test.YtohdlnefgieenaaGreatJ32
import Derived.Lib.QuietBelow
import Derived.BigQuiet
namespace Go.Proofs.YtohdlnefgieenaaGreat
open Go.RowKit Go.Shelf Go.ChangeShapes Go.WideShapes Go.ChangeAt
attribute [local go_sem] Oper.semAt_some
namespace modelPlays
open Feed Go.Law Bk Go.Proofs.YtohdlnefgieenaaGreat.Mod
theorem ask_vals {a : Mo} {b : Nat} (ho : a.Ok b) (q : AcM) (hs : shortB q.op = true) : (a.act q).2.vals.length ≤ 1000 ∧ (a.act q).2.evs.length ≤ 1000 := by
 have hu : q.op.us.length ≤ 20 := by simp [shortB] at hs; omega
 have hp : ∀ who : Nat, who < 8 → (all (a.told who a.n)).length ≤ 1000 := fun who hw => by
  have h1 : (all (a.told who a.n)).length = total (a.told who a.n) := all_length _ _ (Nat.le_refl _)
  have h2 : ∀ n, n ≤ a.n → total (a.told who n) ≤ n * 16 := fun n => by
   induction n with
   | zero => intro _; simp [Mo.told, total]
   | succ n ih =>
     intro hn
     have h3 := ih (by omega)
     have h4 := ho.que n (by omega) who hw
     have e : a.told who (n + 1) = a.told who n ++ [(a.fd n).que who] := by unfold Mo.told; rw [List.range_succ, List.map_append]; rfl
     rw [e, total_app]
     have h5 : total [(a.fd n).que who] = ((a.fd n).que who).length := by simp [total]
     omega
  have := h2 a.n (Nat.le_refl _)
  have := ho.n8
  omega
 unfold Mo.act
 split
 ·exact ⟨Nat.zero_le _, Nat.zero_le _⟩
 ·split
  ·exact ⟨Nat.zero_le _, Nat.zero_le _⟩
  ·unfold Mo.do_
   split
   ·rename_i hg
    unfold Mo.ask
    split
    ·exact ⟨Nat.zero_le _, Nat.zero_le _⟩
    ·split
     ·exact ⟨Nat.zero_le _, hp _ (by omega)⟩
     ·split
      ·exact ⟨Nat.zero_le _, Nat.zero_le _⟩
      ·split
       ·exact ⟨by simp, Nat.zero_le _⟩
       ·split
        ·exact ⟨by simp; omega, Nat.zero_le _⟩
        ·split
         ·exact ⟨Nat.zero_le _, Nat.zero_le _⟩
         ·split <;> exact ⟨Nat.zero_le _, Nat.zero_le _⟩
   ·exact ⟨Nat.zero_le _, Nat.zero_le _⟩

/-! ### sizes as an argument -/
def cellsCf (q : Cf) : List Value := [.int .i64 q.st, .int .i64 q.se, .int .i64 q.qu, .int .i64 q.wa, .int .i64 q.re, .int .u64 q.ep, .int .u64 q.sta]
section
variable {H : Type} {enc : TypeId × Value → H} {P : Program} {W : World} {base b0 : Nat} {sp : Nat → Bool} {hd : Bool} {v : Value} {d : DataW H} {p : List MemPlace}
theorem dec_conf {fuel : Nat} {cs : List Value} {x : DataW H × List MemPlace} {e : TypeId} {f0 f1 f2 f3 f4 f5 f6 : Field} (he : P.underlying e = some (.struct #[f0, f1, f2, f3, f4, f5, f6])) (ce : P.cellsOf e = 7)
  (o0 : f0.offset = 0) (o1 : f1.offset = 1) (o2 : f2.offset = 2) (o3 : f3.offset = 3) (o4 : f4.offset = 4) (o5 : f5.offset = 5) (o6 : f6.offset = 6)
  (c0 : P.cellsOf f0.type = 1) (c1 : P.cellsOf f1.type = 1) (c2 : P.cellsOf f2.type = 1) (c3 : P.cellsOf f3.type = 1) (c4 : P.cellsOf f4.type = 1) (c5 : P.cellsOf f5.type = 1) (c6 : P.cellsOf f6.type = 1)
  (u0 : P.underlying f0.type = some (.int .i64)) (u1 : P.underlying f1.type = some (.int .i64)) (u2 : P.underlying f2.type = some (.int .i64)) (u3 : P.underlying f3.type = some (.int .i64)) (u4 : P.underlying f4.type = some (.int .i64)) (u5 : P.underlying f5.type = some (.int .u64)) (u6 : P.underlying f6.type = some (.int .u64))
  (h : DataW.trod enc P W base sp hd fuel e cs = some x) : ∃ q : Cf, cs = cellsCf q ∧ (Lit.int .u64 q.sta).wf = true := by
 obtain ⟨xs, n, _, _, hl, hxl, hf⟩ := DataW.trod_struct he h
 rw [ce] at hl
 match cs, hl, xs, hxl with
 | [v0, v1, v2, v3, v4, v5, v6], _, [y0, y1, y2, y3, y4, y5, y6], _ =>
   have k0 := hf 0 f0 rfl
   have k1 := hf 1 f1 rfl
   have k2 := hf 2 f2 rfl
   have k3 := hf 3 f3 rfl
   have k4 := hf 4 f4 rfl
   have k5 := hf 5 f5 rfl
   have k6 := hf 6 f6 rfl
   simp [o0, o1, o2, o3, o4, o5, o6, c0, c1, c2, c3, c4, c5, c6] at k0 k1 k2 k3 k4 k5 k6
   obtain ⟨a0, e0, _, _⟩ := DataW.trod_int u0 k0
   obtain ⟨a1, e1, _, _⟩ := DataW.trod_int u1 k1
   obtain ⟨a2, e2, _, _⟩ := DataW.trod_int u2 k2
   obtain ⟨a3, e3, _, _⟩ := DataW.trod_int u3 k3
   obtain ⟨a4, e4, _, _⟩ := DataW.trod_int u4 k4
   obtain ⟨a5, e5, _, _⟩ := DataW.trod_int u5 k5
   obtain ⟨a6, e6, _, w6⟩ := DataW.trod_int u6 k6
   simp at e0 e1 e2 e3 e4 e5 e6
   subst e0 e1 e2 e3 e4 e5 e6
   exact ⟨⟨a0, a1, a2, a3, a4, a5, a6⟩, rfl, w6⟩
set_option maxRecDepth 100000 in
theorem open_conf (hv : Value.okWide Tryz.prog W .any b0 24 v) (h : DataW.Trod enc Tryz.prog W base sp hd 24 v d p) : ∃ q : Cf, v = q.val ∧ Door.U q.sta := by
 obtain ⟨q, e, hg⟩ := open_struct cellsCf (Good := fun q => (Lit.int .u64 q.sta).wf = true) Tryz.underlying24 (fun _ _ _ h => dec_conf Tryz.underlying24 (by kernel_rfl) rfl rfl rfl rfl rfl rfl rfl (by kernel_rfl) (by kernel_rfl) (by kernel_rfl) (by kernel_rfl) (by kernel_rfl) (by kernel_rfl) (by kernel_rfl) Tryz.underlying3 Tryz.underlying3 Tryz.underlying3 Tryz.underlying3 Tryz.underlying3 Tryz.underlying22 Tryz.underlying22 h) hv h
 exact ⟨q, e, bounds_u64 hg⟩
end
theorem tab_rise {w : World} {base m : Nat} {S : Nat → Prop} {a : Mo} (h : Tab w base S m a) : ∀ k, k < a.n → ∀ i, i < 8 → Rises OmapU.lt ((a.fd k).wat i) := fun k hk i hi => by
 obtain ⟨_, _, _, _, _, _, h⟩ := h
 obtain ⟨_, _, _, h⟩ := h.feed k hk
 exact h.rise i hi
structure Bes (w W : World) (S Q : Nat → Prop) (m t N : Nat) (x : Cf) (a : Mo) : Prop where
 la : Live w W w.heap.size S m a
 rt : RTab W w.heap.size Q N t x a
 ap : ∀ z, S z → ¬ Q z
 nw : ∀ z, Q z → w.heap.size ≤ z
section
variable {w W W' : World} {S S' Q Q' T : Nat → Prop} {m t N N' : Nat} {x : Cf} {a a' : Mo}
theorem Bes.ref (hL : Live w W w.heap.size S m a) (hap : ∀ z, S z → ¬ Q z) (hnw : ∀ z, Q z → w.heap.size ≤ z) (G : Gone W Q W' Q') : Live w W' w.heap.size S m a ∧ (∀ z, S z → ¬ Q' z) ∧ (∀ z, Q' z → w.heap.size ≤ z) :=
 ⟨⟨hL.tab.touch G.touch hap G.still, G.below hnw hL.bel hL.bel.size, hL.new⟩, fun z hz hz' => (G.new z hz').elim (hap z hz) (fun h' => by have := (hL.tab.ok z hz).2; omega), fun z hz => (G.new z hz).elim (hnw z) (fun h' => Nat.le_trans hL.bel.size h')⟩
theorem Live.far1 {g i : Nat} {t' : TypeId} {cs : Array Value} (hL : Live w W w.heap.size S m a) (hg : ¬ S g) (hw : w.heap.size ≤ g) (hi : Is W g t' cs) (h1 : 168 ≠ t') (h2 : 138 ≠ t') (h3 : 200 ≠ t') (u : Value) (h4 : UT ≠ some t' := by decide) : Live w (W.setCell ⟨g, i, none⟩ u) w.heap.size S m a :=
 ⟨hL.tab.far hg hi h1 h2 h3 u h4, hL.bel.setCell (p := ⟨g, i, none⟩) hw u, hL.new⟩
theorem Bes.below (h : Bes w W S Q m t N x a) (hb : Below W.heap.size W W') : Bes w W' S Q m t N x a := ⟨h.la.below hb, h.rt.below hb, h.ap, h.nw⟩
end

set_option maxRecDepth 100000 in
set_option maxHeartbeats 8000000 in
theorem walk (q : Cf) (l : List AcM) (A : Option Addr) (c : Nat) (user : ByteArray) (w : World) (hst : Door.U q.sta) (hs : Seq w 0 w.heap.size A (l.flatMap cellsM)) (hl : l.length ≤ maxLen) (hq : ∀ q ∈ l, q.Good w) (hu : user.size ≤ maxLen) :
  Calls Tryz.prog 3 #[q.val, .slice A l.length c, .string user] w fun e w' => e = .returned (.bool true) ∧ Below w.heap.size w w' := by
 have HS := Lib.hid hs
 have HQ := Lib.hid hq
 have HL := Lib.hid hl
 have HU := Lib.hid hu
 have HST := Lib.hid hst
 have HC0 : Hid (Is (w.alloc (.cells #[.int .i64 q.st, .int .i64 q.se, .int .i64 q.qu, .int .i64 q.wa, .int .i64 q.re, .int .u64 q.ep, .int .u64 q.sta] 24)) w.heap.size 24 #[.int .i64 q.st, .int .i64 q.se, .int .i64 q.qu, .int .i64 q.wa, .int .i64 q.re, .int .u64 q.ep, .int .u64 q.sta]) := Is.new w _ _ rfl
 have HB0 : Hid (Below w.heap.size w (w.alloc (.cells #[.int .i64 q.st, .int .i64 q.se, .int .i64 q.qu, .int .i64 q.wa, .int .i64 q.re, .int .u64 q.ep, .int .u64 q.sta] 24))) := (Below.refl _ _).alloc (Nat.le_refl _) _
 clear hs hq hl hu hst
 go_enter Tryz.func3, Tryz.ntmps3
 go_wp2_with fail
 generalize w.alloc (.cells #[.int .i64 q.st, .int .i64 q.se, .int .i64 q.qu, .int .i64 q.wa, .int .i64 q.re, .int .u64 q.ep, .int .u64 q.sta] 24) = w0 at *
 refine (awake w0).mono ?_
 rintro e w1 ⟨rfl, b1⟩
 have HB1 := Lib.hid (HB0.out.trans (b1.mono HB0.out.size))
 have HC1 := Lib.hid (HC0.out.below b1 HC0.out.lt)
 clear b1 HB0 HC0
 go_wp2_with fail
 cases hlong : longM l with
 | true =>
   refine (long l A c w1 ((HS.out.below HB1.out).more HB1.out.size) HL.out (fun q hx => (HQ.out q hx).op.in_.below HB1.out) hlong).mono ?_
   rintro e w2 ⟨rfl, b2⟩
   have HB2 := Lib.hid (HB1.out.trans (b2.mono HB1.out.size))
   clear b2
   go_wp2_with fail
   refine (awake w2).mono ?_
   rintro e w3 ⟨rfl, b3⟩
   have HB3 := Lib.hid (HB2.out.trans (b3.mono HB2.out.size))
   clear b3
   go_wp2_with fail
   go_ret
   exact ⟨rfl, HB3.out⟩
 | false =>
   obtain ⟨hl1, hsh⟩ := longM_no hlong
   refine (long l A c w1 ((HS.out.below HB1.out).more HB1.out.size) HL.out (fun q hx => (HQ.out q hx).op.in_.below HB1.out) hlong).mono ?_
   rintro e w2 ⟨rfl, b2⟩
   have HB2 := Lib.hid (HB1.out.trans (b2.mono HB1.out.size))
   have HC2 := Lib.hid (HC1.out.below b2 HC1.out.lt)
   clear b2 HC1
   by_cases hu40 : 40 < user.size
   ·have d40 : decide ((40 : Int) < (user.size : Int)) = true := by simp; omega
    go_wp2_with fail
    refine (awake w2).mono ?_
    rintro e w3 ⟨rfl, b3⟩
    have HB3 := Lib.hid (HB2.out.trans (b3.mono HB2.out.size))
    clear b3
    go_wp2_with fail
    go_ret
    exact ⟨rfl, HB3.out⟩
   ·have d40 : decide ((40 : Int) < (user.size : Int)) = false := by simp; omega
    have k0 := HC2.out.cell' (i := 0) rfl
    have k1 := HC2.out.cell' (i := 1) rfl
    have k2 := HC2.out.cell' (i := 2) rfl
    have k3 := HC2.out.cell' (i := 3) rfl
    have k4 := HC2.out.cell' (i := 4) rfl
    have k5 := HC2.out.cell' (i := 5) rfl
    have k6 := HC2.out.cell' (i := 6) rfl
    have kl := HC2.out.lt
    have HSH := Lib.hid hsh
    clear hsh
    go_wp2_with fail
    cases hr : q.right with
    | false =>
      refine (new_no q w2 hr).mono ?_
      rintro e w3 ⟨rfl, b3⟩
      have HB3 := Lib.hid (HB2.out.trans (b3.mono HB2.out.size))
      have HC3 := Lib.hid (HC2.out.below b3 HC2.out.lt)
      clear b3 HC2 k0 k1 k2 k3 k4 k5 k6 kl
      have k0 := HC3.out.cell' (i := 0) rfl
      have k1 := HC3.out.cell' (i := 1) rfl
      have k2 := HC3.out.cell' (i := 2) rfl
      have k3 := HC3.out.cell' (i := 3) rfl
      have k4 := HC3.out.cell' (i := 4) rfl
      have k5 := HC3.out.cell' (i := 5) rfl
      have k6 := HC3.out.cell' (i := 6) rfl
      have kl := HC3.out.lt
      go_wp2_with fail
      refine (rright q w3 hr).mono ?_
      rintro e w4 ⟨rfl, b4⟩
      have HB4 := Lib.hid (HB3.out.trans (b4.mono HB3.out.size))
      have HC4 := Lib.hid (HC3.out.below b4 HC3.out.lt)
      clear b4 HC3 k0 k1 k2 k3 k4 k5 k6 kl
      have k0 := HC4.out.cell' (i := 0) rfl
      have k1 := HC4.out.cell' (i := 1) rfl
      have k2 := HC4.out.cell' (i := 2) rfl
      have k3 := HC4.out.cell' (i := 3) rfl
      have k4 := HC4.out.cell' (i := 4) rfl
      have k5 := HC4.out.cell' (i := 5) rfl
      have k6 := HC4.out.cell' (i := 6) rfl
      have kl := HC4.out.lt
      go_wp2_with fail
      refine (right q w4 hr).mono ?_
      rintro e w5 ⟨rfl, b5⟩
      have HB5 := Lib.hid (HB4.out.trans (b5.mono HB4.out.size))
      clear b5
      go_wp2_with fail
      go_ret
      exact ⟨rfl, HB5.out⟩
    | true =>
      refine (new_yes q w2 (base := w.heap.size) HB2.out.size hr).mono ?_
      rintro e w3 ⟨m, S, rfl, hT, hSn, b3⟩
      have HB3 := Lib.hid (HB2.out.trans (b3.mono HB2.out.size))
      have HC3 := Lib.hid (HC2.out.below b3 HC2.out.lt)
      have H3 : Hid (Live w w3 w.heap.size S m (Mo.new q)) := ⟨hT, HB3.out, fun y hy => Nat.le_trans HB2.out.size (hSn y hy)⟩
      clear b3 hT hSn HC2 k0 k1 k2 k3 k4 k5 k6 kl
      have k0 := HC3.out.cell' (i := 0) rfl
      have k1 := HC3.out.cell' (i := 1) rfl
      have k2 := HC3.out.cell' (i := 2) rfl
      have k3 := HC3.out.cell' (i := 3) rfl
      have k4 := HC3.out.cell' (i := 4) rfl
      have k5 := HC3.out.cell' (i := 5) rfl
      have k6 := HC3.out.cell' (i := 6) rfl
      have kl := HC3.out.lt
      go_wp2_with fail
      refine (rright q w3 hr).mono ?_
      rintro e w4 ⟨rfl, b4⟩
      have HB4 := Lib.hid (HB3.out.trans (b4.mono HB3.out.size))
      have HC4 := Lib.hid (HC3.out.below b4 HC3.out.lt)
      have H4 := Lib.hid (H3.out.below b4)
      clear b4 HC3 H3 k0 k1 k2 k3 k4 k5 k6 kl
      have k0 := HC4.out.cell' (i := 0) rfl
      have k1 := HC4.out.cell' (i := 1) rfl
      have k2 := HC4.out.cell' (i := 2) rfl
      have k3 := HC4.out.cell' (i := 3) rfl
      have k4 := HC4.out.cell' (i := 4) rfl
      have k5 := HC4.out.cell' (i := 5) rfl
      have k6 := HC4.out.cell' (i := 6) rfl
      have kl := HC4.out.lt
      go_wp2_with fail
      refine (right q w4 hr).mono ?_
      rintro e w5 ⟨rfl, b5⟩
      have HC5 := Lib.hid (HC4.out.below b5 HC4.out.lt)
      have H5 := Lib.hid (H4.out.below b5)
      clear b5 HC4 H4 HB4 HB3 k0 k1 k2 k3 k4 k5 k6 kl
      have k0 := HC5.out.cell' (i := 0) rfl
      have k1 := HC5.out.cell' (i := 1) rfl
      have k2 := HC5.out.cell' (i := 2) rfl
      have k3 := HC5.out.cell' (i := 3) rfl
      have k4 := HC5.out.cell' (i := 4) rfl
      have k5 := HC5.out.cell' (i := 5) rfl
      have k6 := HC5.out.cell' (i := 6) rfl
      have kl := HC5.out.lt
      go_wp2_with fail
      refine (rnew q w5 (base := w.heap.size) H5.out.bel.size hr).mono ?_
      rintro e w6 ⟨t, Q, rfl, hR, hQn, b6⟩
      have HN := Lib.hid (new_ok q hr HST.out)
      have H6 : Hid (Bes w w6 S Q m t 0 q (Mo.new q)) := ⟨H5.out.below b6, hR, fun z hz hz' => by have h1 := (H5.out.tab.ok z hz).2; have h2 := hQn z hz'; omega, fun z hz => Nat.le_trans H5.out.bel.size (hQn z hz)⟩
      clear hR hQn b6 H5 HC5 k0 k1 k2 k3 k4 k5 k6 kl HB2 HB1
      go_wp2_with fail
      go_loopw [10] (fun vi wr => ∃ (j : Nat) (S Q : Nat → Prop), j ≤ l.length ∧ vi = .int .i64 j ∧ Bes w wr S Q m t j q ((Mo.new q).run (l.take j))) (fun vi _ => l.length - (intOf vi).toNat)
      case atStart => exact ⟨0, S, Q, Nat.zero_le _, rfl, H6.out⟩
      case round =>
       clear H6 S Q
       obtain ⟨j, S, Q, hj, rfl, hL⟩ := hrel
       have HBS := Lib.hid hL
       have H := Lib.hid hL.la
       clear hL
       by_cases hlt : j < l.length
       ·have d1 : decide ((j : Int) < (l.length : Int)) = true := by simp; omega
        have hB := H.out.bel
        obtain ⟨b, off, rfl, _, hb, c0, c1, c2, c3, c4, c5, c6, c7, c8, c9⟩ := (HS.out.below hB).acM hlt
        have HM := Lib.hid (List.getElem_mem hlt)
        have HG := Lib.hid (HQ.out _ HM.out)
        have HIN := Lib.hid (HG.out.op.in_.below hB)
        have lb : b < wr.heap.size := Nat.lt_of_lt_of_le hb hB.size
        clear hB
        have HR := Lib.hid (run_take (Mo.new q) hlt)
        have HO := Lib.hid (run_ok_take HN.out (fun q hx => bounds_u64 (HQ.out q hx).by_) hl1 j)
        have HSJ := Lib.hid (HSH.out _ HM.out)
        generalize l[j] = qq at *
        generalize (Mo.new q).run (l.take j) = a at *
        have HAV := Lib.hid (ask_vals HO.out qq HSJ.out)
        obtain ⟨dI, qw, ⟨kind, user0, id, st, pr, ttl, Au, cu, us0⟩, by_⟩ := qq
        obtain ⟨d, hd⟩ := Int.eq_ofNat_of_zero_le (bounds_u8 HG.out.do_).1
        simp only at hd
        subst hd
        have hd255 := (bounds_u8 HG.out.do_).2
        have hby := bounds_u64 HG.out.by_
        simp only at c0 c1 c2 c3 c4 c5 c6 c7 c8 c9 hd255 hby
        have HSL : Hid (us0.length ≤ 20) := by have := HSJ.out; simp [shortB] at this; show _ ≤ _; omega
        have hqw : ∀ z, Q z → z < wr.heap.size := fun z hz => (HBS.out.rt.ok z hz).2
        have hsw : ∀ z, S z → z < wr.heap.size := fun z hz => (HBS.out.la.tab.ok z hz).2
        have HQW := Lib.hid hqw
        have HSW := Lib.hid hsw
        clear hqw hsw
        have HX := Lib.hid (Is.new wr 39 #[.int .u8 (d : Int), .int .i64 qw, .int .i64 kind, .string user0, .int .i64 id, .int .i64 st, .int .i64 pr, .int .u64 ttl, .slice Au us0.length cu, .int .u64 by_] rfl)
        have bx := (Below.refl wr.heap.size wr).alloc (Nat.le_refl _) (.cells #[.int .u8 (d : Int), .int .i64 qw, .int .i64 kind, .string user0, .int .i64 id, .int .i64 st, .int .i64 pr, .int .u64 ttl, .slice Au us0.length cu, .int .u64 by_] 39)
        have HB1 := Lib.hid (HBS.out.below bx)
        have IN1 := Lib.hid (HIN.out.below bx)
        have hz1 : (wr.alloc (.cells #[.int .u8 (d : Int), .int .i64 qw, .int .i64 kind, .string user0, .int .i64 id, .int .i64 st, .int .i64 pr, .int .u64 ttl, .slice Au us0.length cu, .int .u64 by_] 39)).heap.size = wr.heap.size + 1 := by simp
        have HZ1 := Lib.hid hz1
        clear bx hz1
        go_wp2_with fail
        generalize wr.alloc (.cells #[.int .u8 (d : Int), .int .i64 qw, .int .i64 kind, .string user0, .int .i64 id, .int .i64 st, .int .i64 pr, .int .u64 ttl, .slice Au us0.length cu, .int .u64 by_] 39) = w1 at *
        have hwr : w.heap.size ≤ wr.heap.size := HBS.out.la.bel.size
        generalize wr.heap.size = gx at *
        refine (befalls ⟨(d : Int), qw, ⟨kind, user0, id, st, pr, ttl, Au, cu, us0⟩, by_⟩ HB1.out.la.tab HO.out (by omega) HB1.out.la.bel.size IN1.out ⟨Int.natCast_nonneg _, hd255⟩ hby).mono ?_
        rintro e w6 ⟨A1, c1', A2, c2', rfl, hs1, hs2, S', hT, hG⟩
        have HL6 := Lib.hid (HB1.out.la.gone hT hG)
        have HR6 := Lib.hid (HB1.out.rt.touch hG.touch (fun z hz hS => HB1.out.ap z hS hz) hG.still)
        have HAP6 : Hid (∀ z, S' z → ¬ Q z) := fun z hz hz' => (hG.new z hz).elim (fun h' => HB1.out.ap z h' hz') (fun h' => by have := HQW.out z hz'; have := HZ1.out; omega)
        have HX6 := Lib.hid (hG.is HX.out (fun h => by have := HSW.out _ h; omega))
        have hz6 : gx + 1 ≤ w6.heap.size := by have := hG.touch.size; have := HZ1.out; omega
        have HS1 := Lib.hid hs1
        have HS2 := Lib.hid hs2
        have HZ := Lib.hid HZ1.out
        have hS6 : ∀ z, S' z → z < w6.heap.size := fun z hz => (hT.ok z hz).2
        have HS6 := Lib.hid hS6
        clear hT hG hs1 hs2 hS6 HX IN1 c0 c1 c2 c3 c4 c5 c6 c7 c8 c9 lb
        obtain ⟨pr2, hpr2⟩ : ∃ pr2, a.act ⟨(d : Int), qw, ⟨kind, user0, id, st, pr, ttl, Au, cu, us0⟩, by_⟩ = pr2 := ⟨_, rfl⟩
        rw [hpr2] at HR HAV HL6 HS1 HS2 ⊢
        have HEQ := Lib.hid hpr2
        clear hpr2
        go_upto_region 15 with (fail)
        have b8 : Below w6.heap.size w6 ((w6.alloc (.cells #[.int .i64 pr2.2.err, .slice A1 pr2.2.vals.length c1', .slice A2 pr2.2.evs.length c2', .bool pr2.2.lost] 43)).alloc (.cells #[.int .i64 0, .slice none 0 0, .slice none 0 0, .bool false] 43)) := ((Below.refl _ _).alloc (Nat.le_refl _) _).alloc (by simp) _
        have HX8 := Lib.hid (HX6.out.below b8 HX6.out.lt)
        have HL8 := Lib.hid (HL6.out.below b8)
        have HR8 := Lib.hid (HR6.out.below b8)
        have HS18 := Lib.hid (HS1.out.below b8)
        have HS28 := Lib.hid (HS2.out.below b8)
        have HG8 : Hid (Is ((w6.alloc (.cells #[.int .i64 pr2.2.err, .slice A1 pr2.2.vals.length c1', .slice A2 pr2.2.evs.length c2', .bool pr2.2.lost] 43)).alloc (.cells #[.int .i64 0, .slice none 0 0, .slice none 0 0, .bool false] 43)) w6.heap.size 43 #[.int .i64 pr2.2.err, .slice A1 pr2.2.vals.length c1', .slice A2 pr2.2.evs.length c2', .bool pr2.2.lost]) := (Is.new w6 _ _ rfl).alloc _
        have HW8 : Hid (Is ((w6.alloc (.cells #[.int .i64 pr2.2.err, .slice A1 pr2.2.vals.length c1', .slice A2 pr2.2.evs.length c2', .bool pr2.2.lost] 43)).alloc (.cells #[.int .i64 0, .slice none 0 0, .slice none 0 0, .bool false] 43)) (w6.heap.size + 1) 43 #[.int .i64 0, .slice none 0 0, .slice none 0 0, .bool false]) := Is.new _ _ _ (by simp)
        have HZ8 : Hid (((w6.alloc (.cells #[.int .i64 pr2.2.err, .slice A1 pr2.2.vals.length c1', .slice A2 pr2.2.evs.length c2', .bool pr2.2.lost] 43)).alloc (.cells #[.int .i64 0, .slice none 0 0, .slice none 0 0, .bool false] 43)).heap.size = w6.heap.size + 2) := by show _ = _; simp
        clear b8 HX6 HL6 HR6 HS1 HS2
        generalize (w6.alloc (.cells #[.int .i64 pr2.2.err, .slice A1 pr2.2.vals.length c1', .slice A2 pr2.2.evs.length c2', .bool pr2.2.lost] 43)).alloc (.cells #[.int .i64 0, .slice none 0 0, .slice none 0 0, .bool false] 43) = w8 at *
        generalize w6.heap.size = g6 at *
        rw [HZ.out] at HS18 HS28
        have x0 : w8.cell? ⟨gx, 0, none⟩ = some (.int .u8 (d : Int)) := HX8.out.cell' rfl
        have x1 : w8.cell? ⟨gx, 1, none⟩ = some (.int .i64 qw) := HX8.out.cell' rfl
        have x2 : w8.cell? ⟨gx, 2, none⟩ = some (.int .i64 kind) := HX8.out.cell' rfl
        have x3 : w8.cell? ⟨gx, 3, none⟩ = some (.string user0) := HX8.out.cell' rfl
        have x4 : w8.cell? ⟨gx, 4, none⟩ = some (.int .i64 id) := HX8.out.cell' rfl
        have x5 : w8.cell? ⟨gx, 5, none⟩ = some (.int .i64 st) := HX8.out.cell' rfl
        have x6 : w8.cell? ⟨gx, 6, none⟩ = some (.int .i64 pr) := HX8.out.cell' rfl
        have x7 : w8.cell? ⟨gx, 7, none⟩ = some (.int .u64 ttl) := HX8.out.cell' rfl
        have x8 : w8.cell? ⟨gx, 8, none⟩ = some (.slice Au us0.length cu) := HX8.out.cell' rfl
        have x9 : w8.cell? ⟨gx, 9, none⟩ = some (.int .u64 by_) := HX8.out.cell' rfl
        have lx := HX8.out.lt
        go_upto_block 2 with (fail)
        go_cut [13] (fun v13 wx => v13 = .pointer (some ⟨g6 + 1, 0, none⟩) ∧ ∃ (Q' : Nat → Prop) (B1 : Option Addr) (d1' : Nat) (B2 : Option Addr) (d2' : Nat), RTab wx w.heap.size Q' (j + 1) t q pr2.1 ∧ Live w wx w.heap.size S' m pr2.1 ∧ (∀ z, S' z → ¬ Q' z) ∧ (∀ z, Q' z → w.heap.size ≤ z) ∧ Is wx g6 43 #[.int .i64 pr2.2.err, .slice A1 pr2.2.vals.length c1', .slice A2 pr2.2.evs.length c2', .bool pr2.2.lost] ∧ Is wx (g6 + 1) 43 #[.int .i64 pr2.2.err, .slice B1 pr2.2.vals.length d1', .slice B2 pr2.2.evs.length d2', .bool pr2.2.lost] ∧ Seq wx 0 wx.heap.size A1 (flatPr pr2.2.vals) ∧ Seq wx 0 wx.heap.size A2 (flatE pr2.2.evs) ∧ Seq wx 0 wx.heap.size B1 (flatPr pr2.2.vals) ∧ Seq wx 0 wx.heap.size B2 (flatE pr2.2.evs))
        case first =>
         by_cases h1 : d % 3 = 1
         ·have e1 : ((d : Int) % 3 == 1) = true := by simp; omega
          have HE : Hid ((a.tick by_, Rep.of 0) = pr2) := by show _ = _; rw [← HEQ.out]; unfold Mo.act; rw [if_pos (by show (d : Int) % 3 = 1; omega)]
          obtain ⟨b_, f_, cb_, cf_, ab_, af_, r_, Rk_, ps_, hV⟩ := HR8.out
          go_wp2_with fail
          refine (rtick hV HO.out.now by_ hby).mono ?_
          rintro e w9 ⟨rfl, hT, hG⟩
          have HB9 := Bes.ref HL8.out HAP6.out HB1.out.nw hG
          have h6 := hG.is HG8.out (fun h => by have := HQW.out _ h; omega)
          have h7 := hG.is HW8.out (fun h => by have := HQW.out _ h; omega)
          have s1 := hG.seq HS18.out (by have := HZ8.out; omega) (fun z hz => .inl (by have := HQW.out z hz; omega))
          have s2 := hG.seq HS28.out (by have := HZ8.out; omega) (fun z hz => .inl (by have := HQW.out z hz; omega))
          have hsz := hG.touch.size
          obtain rfl : (a.tick by_, Rep.of 0) = pr2 := HE.out
          have HRT : Hid (RTab w9 w.heap.size Q (j + 1) t q (a.tick by_)) := hT.tab.more (Nat.le_succ j)
          have HZZ : Hid (RTab w9 w.heap.size Q (j + 1) t q (a.tick by_) ∧ Live w w9 w.heap.size S' m (a.tick by_) ∧ (∀ z, S' z → ¬ Q z) ∧ (∀ z, Q z → w.heap.size ≤ z) ∧ Is w9 g6 43 #[.int .i64 0, .slice A1 0 c1', .slice A2 0 c2', .bool false] ∧ Is w9 (g6 + 1) 43 #[.int .i64 0, .slice none 0 0, .slice none 0 0, .bool false] ∧ Seq w9 0 w9.heap.size A1 [] ∧ Seq w9 0 w9.heap.size A2 []) := ⟨HRT.out, HB9.1, HB9.2.1, HB9.2.2, h6, h7, Seq.nil, Seq.nil⟩
          clear hV hT hG HB9 h6 h7 s1 s2 HRT
          go_wp2_with fail
          go_meet
          obtain ⟨z1, z2, z3, z4, z5, z6, z7, z8⟩ := HZZ.out
          exact ⟨rfl, Q, none, 0, none, 0, z1, z2, z3, z4, z5, z6, z7, z8, Seq.nil, Seq.nil⟩
         ·have e1 : ((d : Int) % 3 == 1) = false := by simp; omega
          by_cases h2 : d % 3 = 2
          ·have e2 : ((d : Int) % 3 == 2) = true := by simp; omega
           have HE : Hid ((a.sweep (by_ % 9), Rep.of 0) = pr2) := by show _ = _; rw [← HEQ.out]; unfold Mo.act; rw [if_neg (by show ¬ (d : Int) % 3 = 1; omega), if_pos (by show (d : Int) % 3 = 2; omega)]
           have hmod : wrap64 (by_.tmod 9) = by_ % 9 := by have h0 := hby.1; rw [Int.tmod_eq_emod_of_nonneg h0]; have := Int.emod_nonneg by_ (show (9 : Int) ≠ 0 by decide); have := Int.emod_lt_of_pos by_ (show (0 : Int) < 9 by decide); unfold wrap64; omega
           go_wp2_with fail
           refine (rsweep HR8.out (by omega) HO.out (by omega) (by_ % 9)).mono ?_
           rintro e w9 ⟨rfl, Q', hT, hG⟩
           have HB9 := Bes.ref HL8.out HAP6.out HB1.out.nw hG
           have h6 := hG.is HG8.out (fun h => by have := HQW.out _ h; omega)
           have h7 := hG.is HW8.out (fun h => by have := HQW.out _ h; omega)
           have s1 := hG.seq HS18.out (by have := HZ8.out; omega) (fun z hz => .inl (by have := HQW.out z hz; omega))
           have s2 := hG.seq HS28.out (by have := HZ8.out; omega) (fun z hz => .inl (by have := HQW.out z hz; omega))
           have hsz := hG.touch.size
           obtain rfl : (a.sweep (by_ % 9), Rep.of 0) = pr2 := HE.out
           have HZZ : Hid (RTab w9 w.heap.size Q' (j + 1) t q (a.sweep (by_ % 9)) ∧ Live w w9 w.heap.size S' m (a.sweep (by_ % 9)) ∧ (∀ z, S' z → ¬ Q' z) ∧ (∀ z, Q' z → w.heap.size ≤ z) ∧ Is w9 g6 43 #[.int .i64 0, .slice A1 0 c1', .slice A2 0 c2', .bool false] ∧ Is w9 (g6 + 1) 43 #[.int .i64 0, .slice none 0 0, .slice none 0 0, .bool false] ∧ Seq w9 0 w9.heap.size A1 [] ∧ Seq w9 0 w9.heap.size A2 []) := ⟨hT.more (Nat.le_succ j), HB9.1, HB9.2.1, HB9.2.2, h6, h7, Seq.nil, Seq.nil⟩
           clear hT hG HB9 h6 h7 s1 s2
           go_wp2_with fail
           go_meet
           obtain ⟨z1, z2, z3, z4, z5, z6, z7, z8⟩ := HZZ.out
           exact ⟨rfl, Q', none, 0, none, 0, z1, z2, z3, z4, z5, z6, z7, z8, Seq.nil, Seq.nil⟩
          ·have e2 : ((d : Int) % 3 == 2) = false := by simp; omega
           have HE : Hid (a.do_ qw ⟨kind, user0, id, st, pr, ttl, Au, cu, us0⟩ = pr2) := by show _ = _; rw [← HEQ.out]; unfold Mo.act; rw [if_neg (by show ¬ (d : Int) % 3 = 1; omega), if_neg (by show ¬ (d : Int) % 3 = 2; omega)]
           have IN8 := Lib.hid (HG.out.op.in_.below HL8.out.bel)
           have hri := tab_rise HB1.out.la.tab
           go_wp2_with fail
           refine (rdo ⟨kind, user0, id, st, pr, ttl, Au, cu, us0⟩ HR8.out (by omega) HO.out (by omega) HL8.out.bel.size qw IN8.out (by have := HSL.out; show us0.length ≤ 1000; omega) hri).mono ?_
           rw [HE.out]
           rintro e w9 ⟨B1, d1', B2, d2', rfl, t1, t2, Q', hT, hG⟩
           have HB9 := Bes.ref HL8.out HAP6.out HB1.out.nw hG
           have h6 := hG.is HG8.out (fun h => by have := HQW.out _ h; omega)
           have h7 := hG.is HW8.out (fun h => by have := HQW.out _ h; omega)
           have s1 := hG.seq HS18.out (by have := HZ8.out; omega) (fun z hz => .inl (by have := HQW.out z hz; omega))
           have s2 := hG.seq HS28.out (by have := HZ8.out; omega) (fun z hz => .inl (by have := HQW.out z hz; omega))
           have hsz := hG.touch.size
           have lw := h7.lt
           have r0_ := h7.cell' (i := 0) rfl
           have r1_ := h7.cell' (i := 1) rfl
           have r2_ := h7.cell' (i := 2) rfl
           have r3_ := h7.cell' (i := 3) rfl
           have q0_ := h7.frozen 0
           have q1_ := h7.frozen 1
           have q2_ := h7.frozen 2
           have q3_ := h7.frozen 3
           have hQg : ¬ Q' (g6 + 1) := fun h => (hG.new _ h).elim (fun h' => by have := HQW.out _ h'; omega) (fun h' => by have := HZ8.out; omega)
           have hSg : ¬ S' (g6 + 1) := fun h => by have := HS6.out _ h; omega
           have hz8 := HZ8.out
           have hwg : w.heap.size ≤ g6 + 1 := by omega
           have hT0 := hT
           have hL0 := HB9.1
           have hi0 := h7
           have h60 := h6
           have s10 := s1
           have s20 := s2
           have t10 := t1
           have t20 := t2
           have hT1 := hT0.far (i := 0) hQg hi0 (by decide) (by decide) (by decide) (.int .i64 pr2.2.err)
           have hL1 := Live.far1 (i := 0) hL0 hSg hwg hi0 (by decide) (by decide) (by decide) (.int .i64 pr2.2.err)
           have h61 := h60.far (p := ⟨g6 + 1, 0, none⟩) (by show g6 ≠ g6 + 1; omega) (.int .i64 pr2.2.err)
           have s11 := s10.store (p := ⟨g6 + 1, 0, none⟩) (.inr (by show g6 ≤ g6 + 1; omega)) (.int .i64 pr2.2.err)
           have s21 := s20.store (p := ⟨g6 + 1, 0, none⟩) (.inr (by show g6 ≤ g6 + 1; omega)) (.int .i64 pr2.2.err)
           have t11 := t10.store (p := ⟨g6 + 1, 0, none⟩) (.inl (by show g6 + 1 < _; omega)) (.int .i64 pr2.2.err)
           have t21 := t20.store (p := ⟨g6 + 1, 0, none⟩) (.inl (by show g6 + 1 < _; omega)) (.int .i64 pr2.2.err)
           have hi1 := hi0.set 0 (.int .i64 pr2.2.err) (cs' := #[.int .i64 pr2.2.err, .slice none 0 0, .slice none 0 0, .bool false]) rfl
           have hT2 := hT1.far (i := 1) hQg hi1 (by decide) (by decide) (by decide) (.slice B1 pr2.2.vals.length d1')
           have hL2 := Live.far1 (i := 1) hL1 hSg hwg hi1 (by decide) (by decide) (by decide) (.slice B1 pr2.2.vals.length d1')
           have h62 := h61.far (p := ⟨g6 + 1, 1, none⟩) (by show g6 ≠ g6 + 1; omega) (.slice B1 pr2.2.vals.length d1')
           have s12 := s11.store (p := ⟨g6 + 1, 1, none⟩) (.inr (by show g6 ≤ g6 + 1; omega)) (.slice B1 pr2.2.vals.length d1')
           have s22 := s21.store (p := ⟨g6 + 1, 1, none⟩) (.inr (by show g6 ≤ g6 + 1; omega)) (.slice B1 pr2.2.vals.length d1')
           have t12 := t11.store (p := ⟨g6 + 1, 1, none⟩) (.inl (by show g6 + 1 < _; omega)) (.slice B1 pr2.2.vals.length d1')
           have t22 := t21.store (p := ⟨g6 + 1, 1, none⟩) (.inl (by show g6 + 1 < _; omega)) (.slice B1 pr2.2.vals.length d1')
           have hi2 := hi1.set 1 (.slice B1 pr2.2.vals.length d1') (cs' := #[.int .i64 pr2.2.err, .slice B1 pr2.2.vals.length d1', .slice none 0 0, .bool false]) rfl
           have hT3 := hT2.far (i := 2) hQg hi2 (by decide) (by decide) (by decide) (.slice B2 pr2.2.evs.length d2')
           have hL3 := Live.far1 (i := 2) hL2 hSg hwg hi2 (by decide) (by decide) (by decide) (.slice B2 pr2.2.evs.length d2')
           have h63 := h62.far (p := ⟨g6 + 1, 2, none⟩) (by show g6 ≠ g6 + 1; omega) (.slice B2 pr2.2.evs.length d2')
           have s13 := s12.store (p := ⟨g6 + 1, 2, none⟩) (.inr (by show g6 ≤ g6 + 1; omega)) (.slice B2 pr2.2.evs.length d2')
           have s23 := s22.store (p := ⟨g6 + 1, 2, none⟩) (.inr (by show g6 ≤ g6 + 1; omega)) (.slice B2 pr2.2.evs.length d2')
           have t13 := t12.store (p := ⟨g6 + 1, 2, none⟩) (.inl (by show g6 + 1 < _; omega)) (.slice B2 pr2.2.evs.length d2')
           have t23 := t22.store (p := ⟨g6 + 1, 2, none⟩) (.inl (by show g6 + 1 < _; omega)) (.slice B2 pr2.2.evs.length d2')
           have hi3 := hi2.set 2 (.slice B2 pr2.2.evs.length d2') (cs' := #[.int .i64 pr2.2.err, .slice B1 pr2.2.vals.length d1', .slice B2 pr2.2.evs.length d2', .bool false]) rfl
           have hT4 := hT3.far (i := 3) hQg hi3 (by decide) (by decide) (by decide) (.bool pr2.2.lost)
           have hL4 := Live.far1 (i := 3) hL3 hSg hwg hi3 (by decide) (by decide) (by decide) (.bool pr2.2.lost)
           have h64 := h63.far (p := ⟨g6 + 1, 3, none⟩) (by show g6 ≠ g6 + 1; omega) (.bool pr2.2.lost)
           have s14 := s13.store (p := ⟨g6 + 1, 3, none⟩) (.inr (by show g6 ≤ g6 + 1; omega)) (.bool pr2.2.lost)
           have s24 := s23.store (p := ⟨g6 + 1, 3, none⟩) (.inr (by show g6 ≤ g6 + 1; omega)) (.bool pr2.2.lost)
           have t14 := t13.store (p := ⟨g6 + 1, 3, none⟩) (.inl (by show g6 + 1 < _; omega)) (.bool pr2.2.lost)
           have t24 := t23.store (p := ⟨g6 + 1, 3, none⟩) (.inl (by show g6 + 1 < _; omega)) (.bool pr2.2.lost)
           have hi4 := hi3.set 3 (.bool pr2.2.lost) (cs' := #[.int .i64 pr2.2.err, .slice B1 pr2.2.vals.length d1', .slice B2 pr2.2.evs.length d2', .bool pr2.2.lost]) rfl
           have hsz4 : ((((w9.setCell ⟨g6 + 1, 0, none⟩ (.int .i64 pr2.2.err)).setCell ⟨g6 + 1, 1, none⟩ (.slice B1 pr2.2.vals.length d1')).setCell ⟨g6 + 1, 2, none⟩ (.slice B2 pr2.2.evs.length d2')).setCell ⟨g6 + 1, 3, none⟩ (.bool pr2.2.lost)).heap.size = w9.heap.size := by simp
           have HZZ := Lib.hid (show RTab ((((w9.setCell ⟨g6 + 1, 0, none⟩ (.int .i64 pr2.2.err)).setCell ⟨g6 + 1, 1, none⟩ (.slice B1 pr2.2.vals.length d1')).setCell ⟨g6 + 1, 2, none⟩ (.slice B2 pr2.2.evs.length d2')).setCell ⟨g6 + 1, 3, none⟩ (.bool pr2.2.lost)) w.heap.size Q' (j + 1) t q pr2.1 ∧ Live w ((((w9.setCell ⟨g6 + 1, 0, none⟩ (.int .i64 pr2.2.err)).setCell ⟨g6 + 1, 1, none⟩ (.slice B1 pr2.2.vals.length d1')).setCell ⟨g6 + 1, 2, none⟩ (.slice B2 pr2.2.evs.length d2')).setCell ⟨g6 + 1, 3, none⟩ (.bool pr2.2.lost)) w.heap.size S' m pr2.1 ∧ (∀ z, S' z → ¬ Q' z) ∧ (∀ z, Q' z → w.heap.size ≤ z) ∧ Is ((((w9.setCell ⟨g6 + 1, 0, none⟩ (.int .i64 pr2.2.err)).setCell ⟨g6 + 1, 1, none⟩ (.slice B1 pr2.2.vals.length d1')).setCell ⟨g6 + 1, 2, none⟩ (.slice B2 pr2.2.evs.length d2')).setCell ⟨g6 + 1, 3, none⟩ (.bool pr2.2.lost)) g6 43 #[.int .i64 pr2.2.err, .slice A1 pr2.2.vals.length c1', .slice A2 pr2.2.evs.length c2', .bool pr2.2.lost] ∧ Is ((((w9.setCell ⟨g6 + 1, 0, none⟩ (.int .i64 pr2.2.err)).setCell ⟨g6 + 1, 1, none⟩ (.slice B1 pr2.2.vals.length d1')).setCell ⟨g6 + 1, 2, none⟩ (.slice B2 pr2.2.evs.length d2')).setCell ⟨g6 + 1, 3, none⟩ (.bool pr2.2.lost)) (g6 + 1) 43 #[.int .i64 pr2.2.err, .slice B1 pr2.2.vals.length d1', .slice B2 pr2.2.evs.length d2', .bool pr2.2.lost] ∧ Seq ((((w9.setCell ⟨g6 + 1, 0, none⟩ (.int .i64 pr2.2.err)).setCell ⟨g6 + 1, 1, none⟩ (.slice B1 pr2.2.vals.length d1')).setCell ⟨g6 + 1, 2, none⟩ (.slice B2 pr2.2.evs.length d2')).setCell ⟨g6 + 1, 3, none⟩ (.bool pr2.2.lost)) 0 ((((w9.setCell ⟨g6 + 1, 0, none⟩ (.int .i64 pr2.2.err)).setCell ⟨g6 + 1, 1, none⟩ (.slice B1 pr2.2.vals.length d1')).setCell ⟨g6 + 1, 2, none⟩ (.slice B2 pr2.2.evs.length d2')).setCell ⟨g6 + 1, 3, none⟩ (.bool pr2.2.lost)).heap.size A1 (flatPr pr2.2.vals) ∧ Seq ((((w9.setCell ⟨g6 + 1, 0, none⟩ (.int .i64 pr2.2.err)).setCell ⟨g6 + 1, 1, none⟩ (.slice B1 pr2.2.vals.length d1')).setCell ⟨g6 + 1, 2, none⟩ (.slice B2 pr2.2.evs.length d2')).setCell ⟨g6 + 1, 3, none⟩ (.bool pr2.2.lost)) 0 ((((w9.setCell ⟨g6 + 1, 0, none⟩ (.int .i64 pr2.2.err)).setCell ⟨g6 + 1, 1, none⟩ (.slice B1 pr2.2.vals.length d1')).setCell ⟨g6 + 1, 2, none⟩ (.slice B2 pr2.2.evs.length d2')).setCell ⟨g6 + 1, 3, none⟩ (.bool pr2.2.lost)).heap.size A2 (flatE pr2.2.evs) ∧ Seq ((((w9.setCell ⟨g6 + 1, 0, none⟩ (.int .i64 pr2.2.err)).setCell ⟨g6 + 1, 1, none⟩ (.slice B1 pr2.2.vals.length d1')).setCell ⟨g6 + 1, 2, none⟩ (.slice B2 pr2.2.evs.length d2')).setCell ⟨g6 + 1, 3, none⟩ (.bool pr2.2.lost)) 0 ((((w9.setCell ⟨g6 + 1, 0, none⟩ (.int .i64 pr2.2.err)).setCell ⟨g6 + 1, 1, none⟩ (.slice B1 pr2.2.vals.length d1')).setCell ⟨g6 + 1, 2, none⟩ (.slice B2 pr2.2.evs.length d2')).setCell ⟨g6 + 1, 3, none⟩ (.bool pr2.2.lost)).heap.size B1 (flatPr pr2.2.vals) ∧ Seq ((((w9.setCell ⟨g6 + 1, 0, none⟩ (.int .i64 pr2.2.err)).setCell ⟨g6 + 1, 1, none⟩ (.slice B1 pr2.2.vals.length d1')).setCell ⟨g6 + 1, 2, none⟩ (.slice B2 pr2.2.evs.length d2')).setCell ⟨g6 + 1, 3, none⟩ (.bool pr2.2.lost)) 0 ((((w9.setCell ⟨g6 + 1, 0, none⟩ (.int .i64 pr2.2.err)).setCell ⟨g6 + 1, 1, none⟩ (.slice B1 pr2.2.vals.length d1')).setCell ⟨g6 + 1, 2, none⟩ (.slice B2 pr2.2.evs.length d2')).setCell ⟨g6 + 1, 3, none⟩ (.bool pr2.2.lost)).heap.size B2 (flatE pr2.2.evs) from ⟨hT4, hL4, HB9.2.1, HB9.2.2, h64, hi4, (s14.more (by rw [hsz4]; omega)).from_ (Nat.zero_le _), (s24.more (by rw [hsz4]; omega)).from_ (Nat.zero_le _), (t14.more (by rw [hsz4]; exact Nat.le_refl _)).from_ (Nat.zero_le _), (t24.more (by rw [hsz4]; exact Nat.le_refl _)).from_ (Nat.zero_le _)⟩)
           clear hT hG HB9 h6 h7 s1 s2 t1 t2 hsz4 hT0 hL0 hi0 h60 s10 s20 t10 t20 hT1 hL1 hi1 h61 s11 s21 t11 t21 hT2 hL2 hi2 h62 s12 s22 t12 t22 hT3 hL3 hi3 h63 s13 s23 t13 t23 hT4 hL4 hi4 h64 s14 s24 t14 t24
           go_wp2_with fail
           go_meet
           exact ⟨rfl, Q', B1, d1', B2, d2', HZZ.out⟩
        case rest =>
         obtain ⟨rfl, Q', B1, d1', B2, d2', hRT, hLV, hap, hnw, hg6, hg7, sa1, sa2, sb1, sb2⟩ := hcut
         have OK : Hid (pr2.1.Ok 121) := by show pr2.1.Ok 121; rw [← HEQ.out]; exact act_ok HO.out _ hby
         obtain ⟨sp, hsp⟩ : ∃ sp, pr2.1.pres user = sp := ⟨_, rfl⟩
         obtain ⟨p0, p1, p2⟩ := sp
         obtain ⟨sn, hsn⟩ : ∃ sn : Int, (pr2.1.stored : Int) = sn := ⟨_, rfl⟩
         have HSP := Lib.hid hsp
         have HSN := Lib.hid hsn
         have HRV := Lib.hid (hRT)
         have HLV := Lib.hid hLV
         have HFIN : Hid (Bes w wc S' Q' m t (j + 1) q pr2.1) := ⟨hLV, hRT, hap, hnw⟩
         have HCS : Hid (∀ d' os, Calls Tryz.prog 14 #[.agg #[.int .i64 pr2.2.err, .slice A1 pr2.2.vals.length c1', .slice A2 pr2.2.evs.length c2', .bool pr2.2.lost], .agg #[.int .i64 pr2.2.err, .slice B1 pr2.2.vals.length d1', .slice B2 pr2.2.evs.length d2', .bool pr2.2.lost]] (Go.Sort.grow (redrawn wc d') os) fun e w' => e = .returned (.bool true) ∧ Below (Go.Sort.grow (redrawn wc d') os).heap.size (Go.Sort.grow (redrawn wc d') os) w') := fun d' os => by
          have kb := below_regrown wc d' os
          exact refSame10 pr2.2 A1 B1 A2 B2 c1' d1' c2' d2' _ ((sa1.below kb).more kb.size) ((sb1.below kb).more kb.size) ((sa2.below kb).more kb.size) ((sb2.below kb).more kb.size) HAV.out.1 HAV.out.2
         have HCT : Hid (∀ d' os, Calls Tryz.prog 15 #[.pointer (some ⟨m, 0, none⟩)] (Go.Sort.grow (redrawn wc d') os) fun e w' => e = .returned (.agg #[.int .u64 pr2.1.now, .int .u64 pr2.1.seq, .bool pr2.1.closed]) ∧ Below (Go.Sort.grow (redrawn wc d') os).heap.size (Go.Sort.grow (redrawn wc d') os) w') := fun d' os => Mod.time (HLV.out.tab.below (below_regrown wc d' os))
         have HCP : Hid (∀ d' os, Calls Tryz.prog 16 #[.pointer (some ⟨m, 0, none⟩), .string user] (Go.Sort.grow (redrawn wc d') os) fun e w' => e = .returned (.agg #[.int .i64 p0, .int .i64 p1, .int .i64 p2]) ∧ Below (Go.Sort.grow (redrawn wc d') os).heap.size (Go.Sort.grow (redrawn wc d') os) w') := fun d' os => Mod.presence (HLV.out.tab.below (below_regrown wc d' os)) OK.out (by omega) user HU.out HSP.out
         have HCQ : Hid (∀ d' os, Calls Tryz.prog 17 #[.pointer (some ⟨t, 0, none⟩), .string user] (Go.Sort.grow (redrawn wc d') os) fun e w' => e = .returned (.agg #[.int .i64 p0, .int .i64 p1, .int .i64 p2]) ∧ Below (Go.Sort.grow (redrawn wc d') os).heap.size (Go.Sort.grow (redrawn wc d') os) w') := fun d' os => rpresence (HRV.out.below (below_regrown wc d' os)) OK.out (by omega) user HU.out HSP.out
         have HCN : Hid (∀ d' os, Calls Tryz.prog 18 #[.pointer (some ⟨m, 0, none⟩)] (Go.Sort.grow (redrawn wc d') os) fun e w' => e = .returned (.int .i64 sn) ∧ Below (Go.Sort.grow (redrawn wc d') os).heap.size (Go.Sort.grow (redrawn wc d') os) w') := fun d' os => Mod.stored (HLV.out.tab.below (below_regrown wc d' os)) OK.out (by omega) HSN.out
         have HCM : Hid (∀ d' os, Calls Tryz.prog 19 #[.pointer (some ⟨t, 0, none⟩)] (Go.Sort.grow (redrawn wc d') os) fun e w' => e = .returned (.int .i64 sn) ∧ Below (Go.Sort.grow (redrawn wc d') os).heap.size (Go.Sort.grow (redrawn wc d') os) w') := fun d' os => (rstored (HRV.out.below (below_regrown wc d' os)) OK.out (by omega) HSN.out).mono fun _ _ ⟨h1, h2⟩ => ⟨h1, h2 ▸ Below.refl _ _⟩
         obtain ⟨b_, f_, cb_, cf_, ab_, af_, r_, Rk_, ps_, hV⟩ := hRT
         have y7 := cell_regrown (hV.box.cell' (i := 7) rfl)
         have y8 := cell_regrown (hV.box.cell' (i := 8) rfl)
         have y9 := cell_regrown (hV.box.cell' (i := 9) rfl)
         have u0 := cell_regrown (hg6.cell' (i := 0) rfl)
         have v0 := cell_regrown (hg7.cell' (i := 0) rfl)
         have u1 := cell_regrown (hg6.cell' (i := 1) rfl)
         have v1 := cell_regrown (hg7.cell' (i := 1) rfl)
         have u2 := cell_regrown (hg6.cell' (i := 2) rfl)
         have v2 := cell_regrown (hg7.cell' (i := 2) rfl)
         have u3 := cell_regrown (hg6.cell' (i := 3) rfl)
         have v3 := cell_regrown (hg7.cell' (i := 3) rfl)
         generalize pr2.2.err = ee at *
         generalize pr2.2.lost = lo at *
         generalize pr2.2.vals.length = nv at *
         generalize pr2.2.evs.length = ne at *
         have nn0 : (pr2.1.now != pr2.1.now) = false := by simp
         have nn1 : (pr2.1.seq != pr2.1.seq) = false := by simp
         have nn2 : (pr2.1.closed != pr2.1.closed) = false := by simp
         have nn3 : (sn != sn) = false := by simp
         clear hV hg6 hg7 sa1 sa2 sb1 sb2 hap hnw hsp hsn hLV x0 x1 x2 x3 x4 x5 x6 x7 x8 x9 lx
         go_wp2_with fail
         refine wp_region_quiet_below (by kernel_rfl) (by kernel_rfl) ?_
         repeat (go_big_quiet_step (first
          | (go_at_call 14; with_reducible exact Calls.regrown_of (HCS.out _ _))
          | (go_at_call 15; with_reducible exact Calls.regrown_of (HCT.out _ _))
          | (go_at_call 16; with_reducible exact Calls.regrown_of (HCP.out _ _))
          | (go_at_call 17; with_reducible exact Calls.regrown_of (HCQ.out _ _))
          | (go_at_call 18; with_reducible exact Calls.regrown_of (HCN.out _ _))
          | (go_at_call 19; with_reducible exact Calls.regrown_of (HCM.out _ _))))
         refine wpQuiet_nil ?_
         intro _ hw'
         obtain ⟨⟨nq, osq⟩, hw''⟩ := hw'
         subst hw''
         have HF2 := Lib.hid (HFIN.out.below (below_regrown wc nq osq))
         generalize Go.Sort.grow (redrawn wc nq) osq = wz at *
         go_wp2_with fail
         go_roundw
         case rel => exact ⟨j + 1, S', Q', by omega, by go_num, by rw [HR.out]; exact HF2.out⟩
         case measure => simp [intOf]; omega
       ·have d1 : decide ((j : Int) < (l.length : Int)) = false := by simp; omega
        go_wp2_with fail
        go_ret
        exact ⟨rfl, H.out.bel⟩
set_option maxRecDepth 100000 in
theorem lifted (os : Os) (started : os.Started) (H : Type) (enc : TypeId × Value → H) :
  ReturnsInHanded {} Tryz.checked os 3 .any (Rows.modelPlaysSpec.pre6 enc Tryz.prog Tryz.f3 Rows.modelPlaysRow.domain false) (Rows.modelPlaysSpec.post enc Tryz.prog Tryz.f3 false true false false) := by
 refine returnsInHanded_of_change (C := Tryz.checked) own started (by kernel_rfl) Tryz.func3
  (ChangeSpec.witness6 (enc := enc) (C := Tryz.checked) false ⟨#[], #[.agg #[.int .i64 0, .int .i64 0, .int .i64 0, .int .i64 0, .int .i64 0, .int .u64 0, .int .u64 0], .slice none 0 0, .string ⟨#[]⟩], []⟩ 8 (by kernel_rfl) (by kernel_rfl) (by kernel_rfl) (by kernel_rfl)) ?_
 intro W base args ds gs before hval0 hW hcnd _
 have hval : ∀ (j : Nat) t v, Tryz.f3.params[j]? = some t → args[j]? = some v → Value.okWide Tryz.prog W .any base t v := hval0
 have hW' := hW
 obtain ⟨p, q, hA0, hV, rfl, hfz, hnd⟩ := hW
 have hA : DataW.TrodAll enc Tryz.prog W 0 (fun _ => true) true Tryz.f3.params.toList args.toList ds p := hA0
 rw [Tryz.params3] at hA hval
 obtain ⟨v0, vs0, d0, ds0, p0, q0, hargs, rfl, rfl, h0, r0⟩ := trodAll_cons hA
 obtain ⟨v1, vs1, d1, ds1, p1, q1, rfl, rfl, rfl, h1, r1⟩ := trodAll_cons r0
 obtain ⟨v2, vs2, d2, ds2, p2, q2, rfl, rfl, rfl, h2, r2⟩ := trodAll_cons r1
 obtain ⟨rfl, rfl, rfl⟩ := trodAll_nil r2
 obtain rfl : args = #[v0, v1, v2] := by cases args; simp_all
 obtain ⟨q, rfl, hst⟩ := open_conf (hval 0 24 v0 rfl rfl) h0
 obtain ⟨A, c, l, rfl, hs, hl, hq⟩ := open_acts (hval 1 25 v1 rfl rfl) h1
 obtain ⟨a2, rfl, rfl, rfl, w2⟩ := Go.ChangeMaps.open_string Tryz.underlying9 (hval 2 9 v2 rfl rfl) h2
 refine (walk q l A c a2 W hst hs hl hq w2).mono fun e W' ⟨he, bel⟩ => ?_
 subst he
 exact ⟨_, rfl, Law.post_law laidOut (by kernel_rfl) (by kernel_rfl) Tryz.underlying4 rfl (fun ds h => by match ds, h with | [_, _, _], _ => rfl) hW' bel⟩

theorem proved : Rows.ModelPlaysSaid :=
 OpenClaim.holds_of_wide 3 Tryz.f3 rfl rfl rfl rfl rfl rfl rfl ⟨rfl, rfl, rfl, rfl, rfl⟩ rfl rfl rfl rfl rfl (by kernel_rfl) Tryz.func3 (by kernel_rfl)
  (of_decide_eq_true (by kernel_rfl)) (by unfold Func.isWrapper; rw [if_neg (by decide +kernel)]; exact ⟨rfl, rfl⟩)
  (fun os started H enc _ => lifted os started H enc)
#print axioms proved
end modelPlays
end Go.Proofs.YtohdlnefgieenaaGreat
