/-
  The statements' own sizes and example (layer 10).
-/
import Derived.Test.YtdkjcheannehhaaGreatMod11
import Derived.Test.YtdkjcheannehhaaGreatMod09
namespace Go.Proofs.YtdkjcheannehhaaGreat
open Go.RowKit Go.Shelf
attribute [local go_sem] Oper.semAt_some
namespace Mod
open Go.Law Feed Bk
def small : Cf := ⟨3, 2, 16, 4, 1, 100, 0⟩
theorem small_right : small.right = true := by decide
set_option maxRecDepth 100000 in
set_option maxHeartbeats 1000000 in
theorem small_ (w : World) : Calls Tryz.prog 31 #[] w fun e w' => e = .returned small.val ∧ Below w.heap.size w w' := by
  go_enter Tryz.func31, Tryz.ntmps31
  go_wp2_with fail
  exact bodyPost_ret (v := small.val) (by simp [results, Tryz.results31, go_sem, small]) rfl ⟨rfl, (Below.refl _ w).alloc (Nat.le_refl _) _⟩
def ann : ByteArray := ⟨#[97, 110, 110]⟩
def exW : OpW := ⟨6, ann, 0, 0, 0, 0, none, 0, []⟩
def exS : OpW := ⟨1, ann, 0, 2, 0, 9, none, 0, []⟩
def exP : OpW := ⟨8, ⟨#[]⟩, 0, 0, 0, 0, none, 0, []⟩
def ex2 : Mo := (((Mo.new small).do_ 1 exW).1.do_ 0 exS).1
theorem ex_evs : (ex2.do_ 1 exP).2.evs = [⟨ann, 0, 0, 0, 2, 0, 1, 1⟩] := by decide +kernel
theorem lit_in (kind : Int) (u : ByteArray) (id st pr ttl : Int) (w : World) (hu : u.size ≤ maxLen) (ht : 0 ≤ ttl ∧ ttl ≤ 18446744073709551615) : OpW.In ⟨kind, u, id, st, pr, ttl, none, 0, []⟩ w := ⟨fun h => absurd rfl h, Nat.zero_le _, fun _ h => (by cases h), hu, ht⟩
theorem new_small_ok : (Mo.new small).Ok 0 := new_ok small small_right Door.U0
/-- behind an op that a table was asked: it goes on lying in its blocks -/
structure Live (w0 w : World) (base : Nat) (S : Nat → Prop) (m : Nat) (a : Mo) : Prop where
  tab : Tab w base S m a
  bel : Below w0.heap.size w0 w
  new : ∀ x, S x → w0.heap.size ≤ x
theorem Live.gone {w0 w w' : World} {base m : Nat} {S S' : Nat → Prop} {a a' : Mo} (h : Live w0 w base S m a) (hT : Tab w' base S' m a') (hG : Gone w S w' S') : Live w0 w' base S' m a' :=
  ⟨hT, hG.below h.new h.bel h.bel.size, fun x hx => (hG.new x hx).elim (h.new x) (fun h' => Nat.le_trans h.bel.size h')⟩
theorem Live.below {w0 w w' : World} {base m : Nat} {S : Nat → Prop} {a : Mo} (h : Live w0 w base S m a) (hb : Below w.heap.size w w') : Live w0 w' base S m a :=
  ⟨h.tab.below hb, h.bel.trans (hb.mono h.bel.size), h.new⟩
set_option maxRecDepth 100000 in
set_option maxHeartbeats 4000000 in
theorem awake (w : World) : Calls Tryz.prog 11 #[] w fun e w' => e = .returned (.bool true) ∧ Below w.heap.size w w' := by
  go_enter Tryz.func11, Tryz.ntmps11
  go_wp2_with fail
  refine (small_ w).mono ?_
  rintro e w1 ⟨rfl, b1⟩
  have HB1 := Lib.hid b1
  clear b1
  go_wp2_with fail
  refine (new_yes small w1 (base := w.heap.size) HB1.out.size small_right).mono ?_
  rintro e w2 ⟨m, S, rfl, hT, hS, hB⟩
  have H2 : Hid (Live w w2 w.heap.size S m (Mo.new small)) := ⟨hT, HB1.out.trans (hB.mono HB1.out.size), fun x hx => Nat.le_trans HB1.out.size (hS x hx)⟩
  clear hT hS hB HB1
  go_wp2_with fail
  refine (do_ exW H2.out.tab new_small_ok (by omega) H2.out.bel.size 1 (lit_in _ _ _ _ _ _ _ (by decide) (by decide))).mono ?_
  rintro e w3 ⟨A1, c1, A2, c2, rfl, _, _, S3, hT, hG⟩
  have H3 := Lib.hid (H2.out.gone hT hG)
  have O3 := Lib.hid (do_ok new_small_ok 1 exW)
  clear hT hG H2
  go_wp2_with fail
  refine (do_ exS H3.out.tab O3.out (by omega) H3.out.bel.size 0 (lit_in _ _ _ _ _ _ _ (by decide) (by decide))).mono ?_
  rintro e w4 ⟨A1', c1', A2', c2', rfl, _, _, S4, hT, hG⟩
  have H4 : Hid (Live w w4 w.heap.size S4 m ex2) := H3.out.gone hT hG
  have O4 : Hid (ex2.Ok 2) := do_ok O3.out 0 exS
  clear hT hG H3 O3
  go_wp2_with fail
  refine (do_ exP H4.out.tab O4.out (by omega) H4.out.bel.size 1 (lit_in _ _ _ _ _ _ _ (by decide) (by decide))).mono ?_
  rintro e w5 ⟨A5, c5, A6, c6, rfl, _, hs, S5, hT, hG⟩
  rw [ex_evs] at hs ⊢
  obtain ⟨gb, off, rfl, _, hgb, e0, e1, e2, e3, e4, e5, e6, e7⟩ := hs.ev (i := 0) (by simp)
  simp at e0 e1 e2 e3 e4 e5 e6 e7
  change _ = some (Value.string ⟨#[97, 110, 110]⟩) at e0
  have HB5 := Lib.hid (H4.out.gone hT hG).bel
  clear hT hG H4 O4 hs
  go_wp2_with fail
  go_ret
  exact ⟨rfl, HB5.out.alloc HB5.out.size _⟩
end Mod
end Go.Proofs.YtdkjcheannehhaaGreat
