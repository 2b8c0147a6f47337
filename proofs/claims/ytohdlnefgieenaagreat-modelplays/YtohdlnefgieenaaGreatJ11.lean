/-
  What the calls of layer 8 (book) come to: Get of a book, become, Presence.
-/
import Derived.Test.YtohdlnefgieenaaGreatJ4
import Derived.Test.YtohdlnefgieenaaGreatJ6
import Derived.Test.YtohdlnefgieenaaGreatJ7
import Derived.Test.YtohdlnefgieenaaGreatJ10
import Derived.Deep.RegionHeld3
import Derived.Lib.QuietBelow
import Derived.Test.YtohdlnefgieenaaGreatJ3
namespace Go.Proofs.YtohdlnefgieenaaGreat
open Go.RowKit
namespace Bk
open Go.Law Go.Proofs.YtohdlnefgieenaaGreat.OmapB
def Booked (w : World) (p : Option Addr) (b : List (ByteArray × En)) : Prop := ∃ xs, At w w.heap.size p xs ∧ (∀ q ∈ xs, q.2.In 138 w) ∧ mapV EnV.en xs = b
structure Calm (w w' : World) : Prop where
 node : Keeps 168 w w'
 ses : Keeps 138 w w'
section
variable {w w' w'' : World} {p : Option Addr} {b : List (ByteArray × En)}
theorem Calm.of_below (hb : Below w.heap.size w w') : Calm w w' := ⟨Keeps.of_below hb, Keeps.of_below hb⟩
theorem Calm.trans (h : Calm w w') (h' : Calm w' w'') : Calm w w'' := ⟨h.node.trans h'.node, h.ses.trans h'.ses⟩
theorem Calm.store {g i : Nat} {t' : TypeId} {cs : Array Value} (hg : Is w g t' cs) (h1 : 168 ≠ t') (h2 : 138 ≠ t') (u : Value) : Calm w (w.setCell ⟨g, i, none⟩ u) := ⟨Keeps.store hg h1 u, Keeps.store hg h2 u⟩
theorem Calm.grown {e : TypeId} {base size n : Nat} {v : Value} {xs : List Value} (h : w.ownsRow base e size v n xs) (hg : w.grownBy w' v.ownBlock) (h1 : e ≠ 168) (h2 : e ≠ 138) : Calm w w' := ⟨Keeps.grown h hg h1, Keeps.grown h hg h2⟩
theorem Booked.calm (h : Booked w p b) (hc : Calm w w') : Booked w' p b := by
 obtain ⟨xs, h1, h2, h3⟩ := h
 exact ⟨xs, (h1.keeps hc.node).wide hc.node.size, fun q hq => (h2 q hq).keeps hc.ses, h3⟩
theorem Booked.nil (w : World) : Booked w none [] := ⟨[], .nil, (fun _ h => by cases h), rfl⟩
theorem Booked.now (h : Booked w p b) (hb : Below w.heap.size w w') : Booked w' p b := h.calm (Calm.of_below hb)
theorem Booked.store (h : Booked w p b) {g i : Nat} {t' : TypeId} {cs : Array Value} (hg : Is w g t' cs) (h1 : 168 ≠ t') (h2 : 138 ≠ t') (u : Value) : Booked (w.setCell ⟨g, i, none⟩ u) p b := h.calm (Calm.store hg h1 h2 u)
end
theorem get (k : ByteArray) {w : World} {p : Option Addr} {b : List (ByteArray × En)} {ss : List Sn} {t0 t1 t2 : Int} {r : Bool} (hss : sesK k b = ss) (ht : toldK k b = (t0, t1, t2)) (hr : (getK k b).isSome = r) (h : Booked w p b) (hR : Rises lt b) :
  Calls Tryz.prog 67 #[M p, .string k] w fun e w' => ∃ A c, e = .returned (.tuple #[.agg #[.slice A ss.length c, .int .i64 t0, .int .i64 t1, .int .i64 t2], .bool r]) ∧ Lain 138 w' A (flatS ss) ∧ Below w.heap.size w w' := by
 obtain ⟨xs, h1, h2, rfl⟩ := h
 refine (OmapB.get k h1 (Nat.le_refl _) ((mapV_rises lt).1 hR)).mono ?_
 rintro e w' ⟨rfl, hb⟩
 have e1 := get_ses (xs := xs) k
 have e2 := get_told (xs := xs) k
 have e3 := get_in (w := w) k h2
 have e4 : (getK k xs).isSome = r := by rw [← hr, mapV_get]; simp
 rw [hss] at e1
 rw [ht] at e2
 generalize (getK k xs).getD EnV.zero = v at *
 injection e2 with f0 f1
 injection f1 with f1 f2
 refine ⟨v.A, v.c, ?_, ?_, hb⟩
 ·rw [e4, EnV.val, e3.1, e1, f0, f1, f2]
 ·rw [← e1]; exact e3.2.now hb
theorem ofP {now : Int} {zs : List Sn} {s0 s1 s2 : Int} (hp : presS now zs = (s0, s1, s2)) {A : Option Addr} {c : Nat} {w : World} (hs : Seq w 0 w.heap.size A (flatS zs)) (hl : zs.length ≤ 900) :
  Calls Tryz.prog 68 #[.slice A zs.length c, .int .u64 now] w fun e w' => e = .returned (.agg #[.int .i64 s0, .int .i64 s1, .int .i64 s2]) ∧ Below w.heap.size w w' := by
 refine (Aggr.of_ now zs A c w hs (by unfold maxLen; omega)).mono fun e w' ⟨h1, h2⟩ => ⟨?_, h2⟩
 rw [h1]
 unfold presS at hp
 injection hp with f0 f1
 injection f1 with f1 f2
 rw [Aggr.PV, f0, f1, f2]
def Told (w : World) (b : List (ByteArray × En)) (cs : List Ch) (e : Ending) (w' : World) : Prop := ∃ p A c, e = .returned (.tuple #[M p, .slice A cs.length c]) ∧ Booked w' p b ∧ Lain 185 w' A (flatC cs) ∧ Below w.heap.size w w'

set_option maxRecDepth 100000 in
set_option maxHeartbeats 8000000 in
theorem become_ (u : ByteArray) (ss : List Sn) (now : Int) {w : World} {p A : Option Addr} {c : Nat} {b : List (ByteArray × En)} (h : Booked w p b) (hR : Rises lt b) (hs : Lain 138 w A (flatS ss)) (hl : ss.length ≤ 900) (hn : b.length ≤ 900) :
  Calls Tryz.prog 84 #[M p, .string u, .slice A ss.length c, .int .u64 now] w (Told w (become lt u ss now b) (tells u ss now b)) := by
 obtain ⟨t0, t1, t2, ht⟩ : ∃ t0 t1 t2, toldK u b = (t0, t1, t2) := ⟨_, _, _, rfl⟩
 obtain ⟨s0, s1, s2, hp⟩ : ∃ s0 s1 s2, presS now ss = (s0, s1, s2) := ⟨_, _, _, rfl⟩
 have H := Lib.hid h
 obtain ⟨xs, hx1, hx2, hx3⟩ := h
 have HX := Lib.hid hx1
 have HIN := Lib.hid hx2
 have HM := Lib.hid hx3
 have hxn : xs.length ≤ 900 := by rw [← hx3, mapV_length] at hn; exact hn
 have HXR : Hid (Rises lt xs) := (mapV_rises lt (f := EnV.en)).1 (by rw [hx3]; exact hR)
 have HR := Lib.hid hR
 have HS := Lib.hid hs
 have HSO := Lib.hid hs
 have HT := Lib.hid ht
 have HP := Lib.hid hp
 have HEQ : Hid (tells u ss now b = if (s0, s1, s2) = (t0, t1, t2) then [] else [(u, (t0, t1, t2), (s0, s1, s2))]) := by show _ = _; unfold tells; rw [hp, ht]
 have HBE : Hid (become lt u ss now b = if ss = [] then outK u b else putK lt u (ss, s0, s1, s2) b) := by show _ = _; unfold become; rw [hp]
 clear hR hs ht hp hx1 hx2 hx3 hn
 have I0 : Is ((w.alloc (.cells #[.pointer p] 72)).alloc (.cells #[.pointer none] 72)) w.heap.size 72 #[.pointer p] := (Is.new w _ _ rfl).alloc _
 have I1 : Is ((w.alloc (.cells #[.pointer p] 72)).alloc (.cells #[.pointer none] 72)) (w.heap.size + 1) 72 #[.pointer none] := Is.new _ _ _ (by simp)
 have b0 : Below w.heap.size w ((w.alloc (.cells #[.pointer p] 72)).alloc (.cells #[.pointer none] 72)) := ((Below.refl _ w).alloc (Nat.le_refl _) _).alloc (by simp) _
 have HI0 := Lib.hid I0
 have HI1 := Lib.hid I1
 have HB := Lib.hid b0
 replace H := Lib.hid (H.out.now b0)
 replace HS := Lib.hid (HS.out.now b0)
 replace HX := Lib.hid ((HX.out.under b0).wide b0.size)
 clear I0 I1 b0
 go_enter Tryz.func84, Tryz.ntmps84
 go_wp2_with fail
 generalize ((w.alloc (.cells #[.pointer p] 72)).alloc (.cells #[.pointer none] 72)) = w0 at *
 refine (get u rfl HT.out rfl H.out HR.out).mono ?_
 rintro e w1 ⟨A1, c1, rfl, _, b1⟩
 replace HI0 := Lib.hid (HI0.out.below b1 HI0.out.lt)
 replace HI1 := Lib.hid (HI1.out.below b1 HI1.out.lt)
 replace HS := Lib.hid (HS.out.now b1)
 replace HX := Lib.hid ((HX.out.under b1).wide b1.size)
 replace HB := Lib.hid (HB.out.trans (b1.mono HB.out.size))
 clear b1 H
 have i0 := HI0.out.cell' (i := 0) rfl
 go_wp2_with fail
 have HI2 := Lib.hid (Is.new w1 145 #[.slice A1 (sesK u b).length c1, .int .i64 t0, .int .i64 t1, .int .i64 t2] rfl)
 have bx := (Below.refl w1.heap.size w1).alloc (Nat.le_refl _) (.cells #[.slice A1 (sesK u b).length c1, .int .i64 t0, .int .i64 t1, .int .i64 t2] 145)
 replace HI0 := Lib.hid (HI0.out.below bx HI0.out.lt)
 replace HI1 := Lib.hid (HI1.out.below bx HI1.out.lt)
 replace HS := Lib.hid (HS.out.now bx)
 replace HX := Lib.hid ((HX.out.under bx).wide bx.size)
 replace HB := Lib.hid (HB.out.trans (bx.mono HB.out.size))
 generalize w1.alloc (.cells #[.slice A1 (sesK u b).length c1, .int .i64 t0, .int .i64 t1, .int .i64 t2] 145) = w2 at *
 clear bx
 refine (ofP HP.out HS.out.seq hl).mono ?_
 rintro e w3 ⟨rfl, b1⟩
 replace HI0 := Lib.hid (HI0.out.below b1 HI0.out.lt)
 replace HI1 := Lib.hid (HI1.out.below b1 HI1.out.lt)
 replace HI2 := Lib.hid (HI2.out.below b1 HI2.out.lt)
 replace HX := Lib.hid ((HX.out.under b1).wide b1.size)
 replace HB := Lib.hid (HB.out.trans (b1.mono HB.out.size))
 clear b1 HS i0
 have k1 := HI2.out.cell' (i := 1) rfl
 have k2 := HI2.out.cell' (i := 2) rfl
 have k3 := HI2.out.cell' (i := 3) rfl
 have l2 := HI2.out.lt
 have j0 := HI0.out.cell' (i := 0) rfl
 have l0 := HI0.out.lt
 by_cases q0 : s0 = t0
 ·by_cases q1 : s1 = t1
  ·by_cases q2 : s2 = t2
   ·have e1 : (s0 == t0) = true := by simpa using q0
    have e2 : (s1 == t1) = true := by simpa using q1
    have e3 : (s2 == t2) = true := by simpa using q2
    have HE : Hid (tells u ss now b = []) := by show _ = _; rw [HEQ.out, if_pos (by rw [q0, q1, q2])]
    by_cases qe : ss = []
    ·have HF : Hid (become lt u ss now b = outK u b) := by show _ = _; rw [HBE.out, if_pos qe]
     have e4 : ((ss.length : Int) == 0) = true := by subst qe; rfl
     clear qe
     clear q0 q1 q2
     go_wp2_with fail
     have b1 := (Below.refl w3.heap.size w3).alloc (Nat.le_refl _) (.cells #[.int .i64 s0, .int .i64 s1, .int .i64 s2] 57)
     have hg : w.heap.size + 1 < w3.heap.size := HI1.out.lt
     replace HI1 := Lib.hid (HI1.out.below b1 HI1.out.lt)
     replace HX := Lib.hid ((HX.out.under b1).wide b1.size)
     replace HB := Lib.hid (HB.out.trans (b1.mono HB.out.size))
     clear b1
     generalize w3.alloc (.cells #[.int .i64 s0, .int .i64 s1, .int .i64 s2] 57) = w4 at *
     refine (withoutM u HX.out (Nat.le_refl _) HXR.out (by omega)).mono ?_
     rintro e w5 ⟨p5, rfl, t5, b1⟩
     replace HI1 := Lib.hid (HI1.out.below b1 HI1.out.lt)
     replace HB := Lib.hid (HB.out.trans (b1.mono HB.out.size))
     have HX5 := Lib.hid (t5.far (i := 0) HI1.out (by decide) (.pointer p5))
     have HB5 := Lib.hid (HB.out.setCell (p := ⟨w.heap.size + 1, 0, none⟩) (Nat.le_succ _) (.pointer p5))
     have HI5 := Lib.hid (HI1.out.set 0 (.pointer p5) rfl)
     have l1 := HI1.out.lt
     have f1 := HI1.out.frozen 0
     have m1 := HI1.out.cell' (i := 0) rfl
     clear t5 b1 k1 k2 k3 l2 j0 l0 HX
     go_wp2_with fail
     have e9 : w5.heap.size = (w5.setCell ⟨w.heap.size + 1, 0, none⟩ (.pointer p5)).heap.size := by simp
     rw [e9] at HX5
     clear e9 m1 f1 l1
     generalize w5.setCell ⟨w.heap.size + 1, 0, none⟩ (.pointer p5) = w6 at *
     have c6 := HI5.out.cell' (i := 0) rfl
     refine bodyPost_ret (v := .tuple #[M p5, .slice none 0 0]) (by simp [results, Tryz.results84, go_sem, c6]) rfl ?_
     rw [HE.out, HF.out]
     refine ⟨p5, none, 0, rfl, ⟨_, HX5.out, ?_, ?_⟩, Lain.nil, HB5.out⟩
     ·exact fun q hq => (HIN.out q (List.mem_filter.1 hq).1).keeps (Keeps.of_below HB5.out)
     ·rw [mapV_out, HM.out]
    ·have HF : Hid (become lt u ss now b = putK lt u (ss, s0, s1, s2) b) := by show _ = _; rw [HBE.out, if_neg qe]
     have e4 : ((ss.length : Int) == 0) = false := by have := List.length_pos_iff.2 qe; simp; omega
     clear q0 q1 q2
     go_wp2_with fail
     have b1 := (Below.refl w3.heap.size w3).alloc (Nat.le_refl _) (.cells #[.int .i64 s0, .int .i64 s1, .int .i64 s2] 57)
     have hg : w.heap.size + 1 < w3.heap.size := HI1.out.lt
     replace HI1 := Lib.hid (HI1.out.below b1 HI1.out.lt)
     replace HX := Lib.hid ((HX.out.under b1).wide b1.size)
     replace HB := Lib.hid (HB.out.trans (b1.mono HB.out.size))
     clear b1
     generalize w3.alloc (.cells #[.int .i64 s0, .int .i64 s1, .int .i64 s2] 57) = w4 at *
     refine (withM u (EnV.mk A ss.length c s0 s1 s2 ss) HX.out (Nat.le_refl _) HXR.out (by omega)).mono ?_
     rintro e w5 ⟨p5, rfl, t5, b1⟩
     replace HI1 := Lib.hid (HI1.out.below b1 HI1.out.lt)
     replace HB := Lib.hid (HB.out.trans (b1.mono HB.out.size))
     have HX5 := Lib.hid (t5.far (i := 0) HI1.out (by decide) (.pointer p5))
     have HB5 := Lib.hid (HB.out.setCell (p := ⟨w.heap.size + 1, 0, none⟩) (Nat.le_succ _) (.pointer p5))
     have HI5 := Lib.hid (HI1.out.set 0 (.pointer p5) rfl)
     have l1 := HI1.out.lt
     have f1 := HI1.out.frozen 0
     have m1 := HI1.out.cell' (i := 0) rfl
     clear t5 b1 k1 k2 k3 l2 j0 l0 HX
     go_wp2_with fail
     have e9 : w5.heap.size = (w5.setCell ⟨w.heap.size + 1, 0, none⟩ (.pointer p5)).heap.size := by simp
     rw [e9] at HX5
     clear e9 m1 f1 l1
     generalize w5.setCell ⟨w.heap.size + 1, 0, none⟩ (.pointer p5) = w6 at *
     have c6 := HI5.out.cell' (i := 0) rfl
     refine bodyPost_ret (v := .tuple #[M p5, .slice none 0 0]) (by simp [results, Tryz.results84, go_sem, c6]) rfl ?_
     rw [HE.out, HF.out]
     refine ⟨p5, none, 0, rfl, ⟨_, HX5.out, ?_, ?_⟩, Lain.nil, HB5.out⟩
     ·intro q hq
      rcases putK_mem lt hq with rfl | hq
      ·exact ⟨rfl, HSO.out.now HB5.out⟩
      ·exact (HIN.out q hq).keeps (Keeps.of_below HB5.out)
     ·rw [mapV_put, HM.out]; rfl
   ·have e1 : (s0 == t0) = true := by simpa using q0
    have e2 : (s1 == t1) = true := by simpa using q1
    have e3 : (s2 == t2) = false := by simpa using q2
    have HE : Hid (tells u ss now b = [(u, (t0, t1, t2), (s0, s1, s2))]) := by show _ = _; rw [HEQ.out, if_neg (by intro h; injection h with h0 h; injection h with h1 h2; exact q2 h2)]
    by_cases qe : ss = []
    ·have HF : Hid (become lt u ss now b = outK u b) := by show _ = _; rw [HBE.out, if_pos qe]
     have e4 : ((ss.length : Int) == 0) = true := by subst qe; rfl
     clear qe
     clear q0 q1 q2
     go_wp2_with fail
     have b1 := ((Below.refl w3.heap.size w3).alloc (Nat.le_refl _) (.cells #[.int .i64 s0, .int .i64 s1, .int .i64 s2] 57)).alloc (by simp) (.cells #[.string u, .int .i64 t0, .int .i64 t1, .int .i64 t2, .int .i64 s0, .int .i64 s1, .int .i64 s2] 185)
     have HIC := Lib.hid (Is.new (w3.alloc (.cells #[.int .i64 s0, .int .i64 s1, .int .i64 s2] 57)) 185 #[.string u, .int .i64 t0, .int .i64 t1, .int .i64 t2, .int .i64 s0, .int .i64 s1, .int .i64 s2] (g := w3.heap.size + 1) (by simp))
     have hg : w.heap.size + 1 < w3.heap.size := HI1.out.lt
     replace HI1 := Lib.hid (HI1.out.below b1 HI1.out.lt)
     replace HX := Lib.hid ((HX.out.under b1).wide b1.size)
     replace HB := Lib.hid (HB.out.trans (b1.mono HB.out.size))
     clear b1
     generalize ((w3.alloc (.cells #[.int .i64 s0, .int .i64 s1, .int .i64 s2] 57)).alloc (.cells #[.string u, .int .i64 t0, .int .i64 t1, .int .i64 t2, .int .i64 s0, .int .i64 s1, .int .i64 s2] 185)) = w4 at *
     refine (withoutM u HX.out (Nat.le_refl _) HXR.out (by omega)).mono ?_
     rintro e w5 ⟨p5, rfl, t5, b1⟩
     replace HI1 := Lib.hid (HI1.out.below b1 HI1.out.lt)
     replace HIC := Lib.hid (HIC.out.below b1 HIC.out.lt)
     replace HB := Lib.hid (HB.out.trans (b1.mono HB.out.size))
     have HX5 := Lib.hid (t5.far (i := 0) HI1.out (by decide) (.pointer p5))
     have HIC5 := Lib.hid (HIC.out.far (p := ⟨w.heap.size + 1, 0, none⟩) (by simp; omega) (.pointer p5))
     have HB5 := Lib.hid (HB.out.setCell (p := ⟨w.heap.size + 1, 0, none⟩) (Nat.le_succ _) (.pointer p5))
     have HI5 := Lib.hid (HI1.out.set 0 (.pointer p5) rfl)
     have l1 := HI1.out.lt
     have f1 := HI1.out.frozen 0
     have m1 := HI1.out.cell' (i := 0) rfl
     clear t5 b1 k1 k2 k3 l2 j0 l0 HX HIC
     go_wp2_with fail
     have e9 : w5.heap.size = (w5.setCell ⟨w.heap.size + 1, 0, none⟩ (.pointer p5)).heap.size := by simp
     rw [e9] at HX5
     clear e9 m1 f1 l1
     generalize w5.setCell ⟨w.heap.size + 1, 0, none⟩ (.pointer p5) = w6 at *
     have c6 := HI5.out.cell' (i := 0) rfl
     refine bodyPost_ret (v := .tuple #[M p5, .slice (some ⟨w3.heap.size + 1, 0, none⟩) 1 1]) (by simp [results, Tryz.results84, go_sem, c6]) rfl ?_
     rw [HE.out, HF.out]
     refine ⟨p5, _, _, rfl, ⟨_, HX5.out, ?_, ?_⟩, Lain.is HIC5.out rfl, HB5.out⟩
     ·exact fun q hq => (HIN.out q (List.mem_filter.1 hq).1).keeps (Keeps.of_below HB5.out)
     ·rw [mapV_out, HM.out]
    ·have HF : Hid (become lt u ss now b = putK lt u (ss, s0, s1, s2) b) := by show _ = _; rw [HBE.out, if_neg qe]
     have e4 : ((ss.length : Int) == 0) = false := by have := List.length_pos_iff.2 qe; simp; omega
     clear q0 q1 q2
     go_wp2_with fail
     have b1 := ((Below.refl w3.heap.size w3).alloc (Nat.le_refl _) (.cells #[.int .i64 s0, .int .i64 s1, .int .i64 s2] 57)).alloc (by simp) (.cells #[.string u, .int .i64 t0, .int .i64 t1, .int .i64 t2, .int .i64 s0, .int .i64 s1, .int .i64 s2] 185)
     have HIC := Lib.hid (Is.new (w3.alloc (.cells #[.int .i64 s0, .int .i64 s1, .int .i64 s2] 57)) 185 #[.string u, .int .i64 t0, .int .i64 t1, .int .i64 t2, .int .i64 s0, .int .i64 s1, .int .i64 s2] (g := w3.heap.size + 1) (by simp))
     have hg : w.heap.size + 1 < w3.heap.size := HI1.out.lt
     replace HI1 := Lib.hid (HI1.out.below b1 HI1.out.lt)
     replace HX := Lib.hid ((HX.out.under b1).wide b1.size)
     replace HB := Lib.hid (HB.out.trans (b1.mono HB.out.size))
     clear b1
     generalize ((w3.alloc (.cells #[.int .i64 s0, .int .i64 s1, .int .i64 s2] 57)).alloc (.cells #[.string u, .int .i64 t0, .int .i64 t1, .int .i64 t2, .int .i64 s0, .int .i64 s1, .int .i64 s2] 185)) = w4 at *
     refine (withM u (EnV.mk A ss.length c s0 s1 s2 ss) HX.out (Nat.le_refl _) HXR.out (by omega)).mono ?_
     rintro e w5 ⟨p5, rfl, t5, b1⟩
     replace HI1 := Lib.hid (HI1.out.below b1 HI1.out.lt)
     replace HIC := Lib.hid (HIC.out.below b1 HIC.out.lt)
     replace HB := Lib.hid (HB.out.trans (b1.mono HB.out.size))
     have HX5 := Lib.hid (t5.far (i := 0) HI1.out (by decide) (.pointer p5))
     have HIC5 := Lib.hid (HIC.out.far (p := ⟨w.heap.size + 1, 0, none⟩) (by simp; omega) (.pointer p5))
     have HB5 := Lib.hid (HB.out.setCell (p := ⟨w.heap.size + 1, 0, none⟩) (Nat.le_succ _) (.pointer p5))
     have HI5 := Lib.hid (HI1.out.set 0 (.pointer p5) rfl)
     have l1 := HI1.out.lt
     have f1 := HI1.out.frozen 0
     have m1 := HI1.out.cell' (i := 0) rfl
     clear t5 b1 k1 k2 k3 l2 j0 l0 HX HIC
     go_wp2_with fail
     have e9 : w5.heap.size = (w5.setCell ⟨w.heap.size + 1, 0, none⟩ (.pointer p5)).heap.size := by simp
     rw [e9] at HX5
     clear e9 m1 f1 l1
     generalize w5.setCell ⟨w.heap.size + 1, 0, none⟩ (.pointer p5) = w6 at *
     have c6 := HI5.out.cell' (i := 0) rfl
     refine bodyPost_ret (v := .tuple #[M p5, .slice (some ⟨w3.heap.size + 1, 0, none⟩) 1 1]) (by simp [results, Tryz.results84, go_sem, c6]) rfl ?_
     rw [HE.out, HF.out]
     refine ⟨p5, _, _, rfl, ⟨_, HX5.out, ?_, ?_⟩, Lain.is HIC5.out rfl, HB5.out⟩
     ·intro q hq
      rcases putK_mem lt hq with rfl | hq
      ·exact ⟨rfl, HSO.out.now HB5.out⟩
      ·exact (HIN.out q hq).keeps (Keeps.of_below HB5.out)
     ·rw [mapV_put, HM.out]; rfl
  ·have e1 : (s0 == t0) = true := by simpa using q0
   have e2 : (s1 == t1) = false := by simpa using q1
   have HE : Hid (tells u ss now b = [(u, (t0, t1, t2), (s0, s1, s2))]) := by show _ = _; rw [HEQ.out, if_neg (by intro h; injection h with h0 h; injection h with h1 h2; exact q1 h1)]
   by_cases qe : ss = []
   ·have HF : Hid (become lt u ss now b = outK u b) := by show _ = _; rw [HBE.out, if_pos qe]
    have e4 : ((ss.length : Int) == 0) = true := by subst qe; rfl
    clear qe
    clear q0 q1
    go_wp2_with fail
    have b1 := ((Below.refl w3.heap.size w3).alloc (Nat.le_refl _) (.cells #[.int .i64 s0, .int .i64 s1, .int .i64 s2] 57)).alloc (by simp) (.cells #[.string u, .int .i64 t0, .int .i64 t1, .int .i64 t2, .int .i64 s0, .int .i64 s1, .int .i64 s2] 185)
    have HIC := Lib.hid (Is.new (w3.alloc (.cells #[.int .i64 s0, .int .i64 s1, .int .i64 s2] 57)) 185 #[.string u, .int .i64 t0, .int .i64 t1, .int .i64 t2, .int .i64 s0, .int .i64 s1, .int .i64 s2] (g := w3.heap.size + 1) (by simp))
    have hg : w.heap.size + 1 < w3.heap.size := HI1.out.lt
    replace HI1 := Lib.hid (HI1.out.below b1 HI1.out.lt)
    replace HX := Lib.hid ((HX.out.under b1).wide b1.size)
    replace HB := Lib.hid (HB.out.trans (b1.mono HB.out.size))
    clear b1
    generalize ((w3.alloc (.cells #[.int .i64 s0, .int .i64 s1, .int .i64 s2] 57)).alloc (.cells #[.string u, .int .i64 t0, .int .i64 t1, .int .i64 t2, .int .i64 s0, .int .i64 s1, .int .i64 s2] 185)) = w4 at *
    refine (withoutM u HX.out (Nat.le_refl _) HXR.out (by omega)).mono ?_
    rintro e w5 ⟨p5, rfl, t5, b1⟩
    replace HI1 := Lib.hid (HI1.out.below b1 HI1.out.lt)
    replace HIC := Lib.hid (HIC.out.below b1 HIC.out.lt)
    replace HB := Lib.hid (HB.out.trans (b1.mono HB.out.size))
    have HX5 := Lib.hid (t5.far (i := 0) HI1.out (by decide) (.pointer p5))
    have HIC5 := Lib.hid (HIC.out.far (p := ⟨w.heap.size + 1, 0, none⟩) (by simp; omega) (.pointer p5))
    have HB5 := Lib.hid (HB.out.setCell (p := ⟨w.heap.size + 1, 0, none⟩) (Nat.le_succ _) (.pointer p5))
    have HI5 := Lib.hid (HI1.out.set 0 (.pointer p5) rfl)
    have l1 := HI1.out.lt
    have f1 := HI1.out.frozen 0
    have m1 := HI1.out.cell' (i := 0) rfl
    clear t5 b1 k1 k2 k3 l2 j0 l0 HX HIC
    go_wp2_with fail
    have e9 : w5.heap.size = (w5.setCell ⟨w.heap.size + 1, 0, none⟩ (.pointer p5)).heap.size := by simp
    rw [e9] at HX5
    clear e9 m1 f1 l1
    generalize w5.setCell ⟨w.heap.size + 1, 0, none⟩ (.pointer p5) = w6 at *
    have c6 := HI5.out.cell' (i := 0) rfl
    refine bodyPost_ret (v := .tuple #[M p5, .slice (some ⟨w3.heap.size + 1, 0, none⟩) 1 1]) (by simp [results, Tryz.results84, go_sem, c6]) rfl ?_
    rw [HE.out, HF.out]
    refine ⟨p5, _, _, rfl, ⟨_, HX5.out, ?_, ?_⟩, Lain.is HIC5.out rfl, HB5.out⟩
    ·exact fun q hq => (HIN.out q (List.mem_filter.1 hq).1).keeps (Keeps.of_below HB5.out)
    ·rw [mapV_out, HM.out]
   ·have HF : Hid (become lt u ss now b = putK lt u (ss, s0, s1, s2) b) := by show _ = _; rw [HBE.out, if_neg qe]
    have e4 : ((ss.length : Int) == 0) = false := by have := List.length_pos_iff.2 qe; simp; omega
    clear q0 q1
    go_wp2_with fail
    have b1 := ((Below.refl w3.heap.size w3).alloc (Nat.le_refl _) (.cells #[.int .i64 s0, .int .i64 s1, .int .i64 s2] 57)).alloc (by simp) (.cells #[.string u, .int .i64 t0, .int .i64 t1, .int .i64 t2, .int .i64 s0, .int .i64 s1, .int .i64 s2] 185)
    have HIC := Lib.hid (Is.new (w3.alloc (.cells #[.int .i64 s0, .int .i64 s1, .int .i64 s2] 57)) 185 #[.string u, .int .i64 t0, .int .i64 t1, .int .i64 t2, .int .i64 s0, .int .i64 s1, .int .i64 s2] (g := w3.heap.size + 1) (by simp))
    have hg : w.heap.size + 1 < w3.heap.size := HI1.out.lt
    replace HI1 := Lib.hid (HI1.out.below b1 HI1.out.lt)
    replace HX := Lib.hid ((HX.out.under b1).wide b1.size)
    replace HB := Lib.hid (HB.out.trans (b1.mono HB.out.size))
    clear b1
    generalize ((w3.alloc (.cells #[.int .i64 s0, .int .i64 s1, .int .i64 s2] 57)).alloc (.cells #[.string u, .int .i64 t0, .int .i64 t1, .int .i64 t2, .int .i64 s0, .int .i64 s1, .int .i64 s2] 185)) = w4 at *
    refine (withM u (EnV.mk A ss.length c s0 s1 s2 ss) HX.out (Nat.le_refl _) HXR.out (by omega)).mono ?_
    rintro e w5 ⟨p5, rfl, t5, b1⟩
    replace HI1 := Lib.hid (HI1.out.below b1 HI1.out.lt)
    replace HIC := Lib.hid (HIC.out.below b1 HIC.out.lt)
    replace HB := Lib.hid (HB.out.trans (b1.mono HB.out.size))
    have HX5 := Lib.hid (t5.far (i := 0) HI1.out (by decide) (.pointer p5))
    have HIC5 := Lib.hid (HIC.out.far (p := ⟨w.heap.size + 1, 0, none⟩) (by simp; omega) (.pointer p5))
    have HB5 := Lib.hid (HB.out.setCell (p := ⟨w.heap.size + 1, 0, none⟩) (Nat.le_succ _) (.pointer p5))
    have HI5 := Lib.hid (HI1.out.set 0 (.pointer p5) rfl)
    have l1 := HI1.out.lt
    have f1 := HI1.out.frozen 0
    have m1 := HI1.out.cell' (i := 0) rfl
    clear t5 b1 k1 k2 k3 l2 j0 l0 HX HIC
    go_wp2_with fail
    have e9 : w5.heap.size = (w5.setCell ⟨w.heap.size + 1, 0, none⟩ (.pointer p5)).heap.size := by simp
    rw [e9] at HX5
    clear e9 m1 f1 l1
    generalize w5.setCell ⟨w.heap.size + 1, 0, none⟩ (.pointer p5) = w6 at *
    have c6 := HI5.out.cell' (i := 0) rfl
    refine bodyPost_ret (v := .tuple #[M p5, .slice (some ⟨w3.heap.size + 1, 0, none⟩) 1 1]) (by simp [results, Tryz.results84, go_sem, c6]) rfl ?_
    rw [HE.out, HF.out]
    refine ⟨p5, _, _, rfl, ⟨_, HX5.out, ?_, ?_⟩, Lain.is HIC5.out rfl, HB5.out⟩
    ·intro q hq
     rcases putK_mem lt hq with rfl | hq
     ·exact ⟨rfl, HSO.out.now HB5.out⟩
     ·exact (HIN.out q hq).keeps (Keeps.of_below HB5.out)
    ·rw [mapV_put, HM.out]; rfl
 ·have e1 : (s0 == t0) = false := by simpa using q0
  have HE : Hid (tells u ss now b = [(u, (t0, t1, t2), (s0, s1, s2))]) := by show _ = _; rw [HEQ.out, if_neg (by intro h; injection h with h0 h; injection h with h1 h2; exact q0 h0)]
  by_cases qe : ss = []
  ·have HF : Hid (become lt u ss now b = outK u b) := by show _ = _; rw [HBE.out, if_pos qe]
   have e4 : ((ss.length : Int) == 0) = true := by subst qe; rfl
   clear qe
   clear q0
   go_wp2_with fail
   have b1 := ((Below.refl w3.heap.size w3).alloc (Nat.le_refl _) (.cells #[.int .i64 s0, .int .i64 s1, .int .i64 s2] 57)).alloc (by simp) (.cells #[.string u, .int .i64 t0, .int .i64 t1, .int .i64 t2, .int .i64 s0, .int .i64 s1, .int .i64 s2] 185)
   have HIC := Lib.hid (Is.new (w3.alloc (.cells #[.int .i64 s0, .int .i64 s1, .int .i64 s2] 57)) 185 #[.string u, .int .i64 t0, .int .i64 t1, .int .i64 t2, .int .i64 s0, .int .i64 s1, .int .i64 s2] (g := w3.heap.size + 1) (by simp))
   have hg : w.heap.size + 1 < w3.heap.size := HI1.out.lt
   replace HI1 := Lib.hid (HI1.out.below b1 HI1.out.lt)
   replace HX := Lib.hid ((HX.out.under b1).wide b1.size)
   replace HB := Lib.hid (HB.out.trans (b1.mono HB.out.size))
   clear b1
   generalize ((w3.alloc (.cells #[.int .i64 s0, .int .i64 s1, .int .i64 s2] 57)).alloc (.cells #[.string u, .int .i64 t0, .int .i64 t1, .int .i64 t2, .int .i64 s0, .int .i64 s1, .int .i64 s2] 185)) = w4 at *
   refine (withoutM u HX.out (Nat.le_refl _) HXR.out (by omega)).mono ?_
   rintro e w5 ⟨p5, rfl, t5, b1⟩
   replace HI1 := Lib.hid (HI1.out.below b1 HI1.out.lt)
   replace HIC := Lib.hid (HIC.out.below b1 HIC.out.lt)
   replace HB := Lib.hid (HB.out.trans (b1.mono HB.out.size))
   have HX5 := Lib.hid (t5.far (i := 0) HI1.out (by decide) (.pointer p5))
   have HIC5 := Lib.hid (HIC.out.far (p := ⟨w.heap.size + 1, 0, none⟩) (by simp; omega) (.pointer p5))
   have HB5 := Lib.hid (HB.out.setCell (p := ⟨w.heap.size + 1, 0, none⟩) (Nat.le_succ _) (.pointer p5))
   have HI5 := Lib.hid (HI1.out.set 0 (.pointer p5) rfl)
   have l1 := HI1.out.lt
   have f1 := HI1.out.frozen 0
   have m1 := HI1.out.cell' (i := 0) rfl
   clear t5 b1 k1 k2 k3 l2 j0 l0 HX HIC
   go_wp2_with fail
   have e9 : w5.heap.size = (w5.setCell ⟨w.heap.size + 1, 0, none⟩ (.pointer p5)).heap.size := by simp
   rw [e9] at HX5
   clear e9 m1 f1 l1
   generalize w5.setCell ⟨w.heap.size + 1, 0, none⟩ (.pointer p5) = w6 at *
   have c6 := HI5.out.cell' (i := 0) rfl
   refine bodyPost_ret (v := .tuple #[M p5, .slice (some ⟨w3.heap.size + 1, 0, none⟩) 1 1]) (by simp [results, Tryz.results84, go_sem, c6]) rfl ?_
   rw [HE.out, HF.out]
   refine ⟨p5, _, _, rfl, ⟨_, HX5.out, ?_, ?_⟩, Lain.is HIC5.out rfl, HB5.out⟩
   ·exact fun q hq => (HIN.out q (List.mem_filter.1 hq).1).keeps (Keeps.of_below HB5.out)
   ·rw [mapV_out, HM.out]
  ·have HF : Hid (become lt u ss now b = putK lt u (ss, s0, s1, s2) b) := by show _ = _; rw [HBE.out, if_neg qe]
   have e4 : ((ss.length : Int) == 0) = false := by have := List.length_pos_iff.2 qe; simp; omega
   clear q0
   go_wp2_with fail
   have b1 := ((Below.refl w3.heap.size w3).alloc (Nat.le_refl _) (.cells #[.int .i64 s0, .int .i64 s1, .int .i64 s2] 57)).alloc (by simp) (.cells #[.string u, .int .i64 t0, .int .i64 t1, .int .i64 t2, .int .i64 s0, .int .i64 s1, .int .i64 s2] 185)
   have HIC := Lib.hid (Is.new (w3.alloc (.cells #[.int .i64 s0, .int .i64 s1, .int .i64 s2] 57)) 185 #[.string u, .int .i64 t0, .int .i64 t1, .int .i64 t2, .int .i64 s0, .int .i64 s1, .int .i64 s2] (g := w3.heap.size + 1) (by simp))
   have hg : w.heap.size + 1 < w3.heap.size := HI1.out.lt
   replace HI1 := Lib.hid (HI1.out.below b1 HI1.out.lt)
   replace HX := Lib.hid ((HX.out.under b1).wide b1.size)
   replace HB := Lib.hid (HB.out.trans (b1.mono HB.out.size))
   clear b1
   generalize ((w3.alloc (.cells #[.int .i64 s0, .int .i64 s1, .int .i64 s2] 57)).alloc (.cells #[.string u, .int .i64 t0, .int .i64 t1, .int .i64 t2, .int .i64 s0, .int .i64 s1, .int .i64 s2] 185)) = w4 at *
   refine (withM u (EnV.mk A ss.length c s0 s1 s2 ss) HX.out (Nat.le_refl _) HXR.out (by omega)).mono ?_
   rintro e w5 ⟨p5, rfl, t5, b1⟩
   replace HI1 := Lib.hid (HI1.out.below b1 HI1.out.lt)
   replace HIC := Lib.hid (HIC.out.below b1 HIC.out.lt)
   replace HB := Lib.hid (HB.out.trans (b1.mono HB.out.size))
   have HX5 := Lib.hid (t5.far (i := 0) HI1.out (by decide) (.pointer p5))
   have HIC5 := Lib.hid (HIC.out.far (p := ⟨w.heap.size + 1, 0, none⟩) (by simp; omega) (.pointer p5))
   have HB5 := Lib.hid (HB.out.setCell (p := ⟨w.heap.size + 1, 0, none⟩) (Nat.le_succ _) (.pointer p5))
   have HI5 := Lib.hid (HI1.out.set 0 (.pointer p5) rfl)
   have l1 := HI1.out.lt
   have f1 := HI1.out.frozen 0
   have m1 := HI1.out.cell' (i := 0) rfl
   clear t5 b1 k1 k2 k3 l2 j0 l0 HX HIC
   go_wp2_with fail
   have e9 : w5.heap.size = (w5.setCell ⟨w.heap.size + 1, 0, none⟩ (.pointer p5)).heap.size := by simp
   rw [e9] at HX5
   clear e9 m1 f1 l1
   generalize w5.setCell ⟨w.heap.size + 1, 0, none⟩ (.pointer p5) = w6 at *
   have c6 := HI5.out.cell' (i := 0) rfl
   refine bodyPost_ret (v := .tuple #[M p5, .slice (some ⟨w3.heap.size + 1, 0, none⟩) 1 1]) (by simp [results, Tryz.results84, go_sem, c6]) rfl ?_
   rw [HE.out, HF.out]
   refine ⟨p5, _, _, rfl, ⟨_, HX5.out, ?_, ?_⟩, Lain.is HIC5.out rfl, HB5.out⟩
   ·intro q hq
    rcases putK_mem lt hq with rfl | hq
    ·exact ⟨rfl, HSO.out.now HB5.out⟩
    ·exact (HIN.out q hq).keeps (Keeps.of_below HB5.out)
   ·rw [mapV_put, HM.out]; rfl

end Bk
end Go.Proofs.YtohdlnefgieenaaGreat
namespace Go.Law
open Go.RowKit Go.ChangeShapes Go.WideShapes Go.ChangeAt
structure OpV where
 kind : Int
 user : ByteArray
 id : Int
 st : Int
 pr : Int
 ttl : Int
 users : Value
section
variable {H : Type} {enc : TypeId × Value → H} {P : Program} {W : World} {base : Nat} {sp : Nat → Bool} {hd : Bool} {fuel : Nat} {cs : List Value} {x : DataW H × List MemPlace}
end
end Go.Law
namespace Go.Law
theorem wrote_set (id st pr un most : Int) (l : List Sn) : SetTo (id, st, pr, un) most l (wrote 1 id st pr un most l).1 (wrote 1 id st pr un most l).2 := by
 unfold wrote SetTo
 rw [if_pos rfl]
 cases h : hasS id l with
 | true => exact .inl ⟨rfl, by simp, by simp⟩
 | false =>
   by_cases hm : (l.length : Int) < most
   ·exact .inr (.inr ⟨rfl, hm, by simp [hm], by simp [hm]⟩)
   ·exact .inr (.inl ⟨rfl, by omega, by simp [hm], by simp [hm]⟩)
theorem wrote_beat (id st pr un most : Int) (l : List Sn) : BeatTo id un l (wrote 2 id st pr un most l).1 (wrote 2 id st pr un most l).2 := by
 unfold wrote BeatTo
 rw [if_neg (by decide), if_pos rfl]
 cases h : hasS id l with
 | true => exact .inl ⟨rfl, by simp, by simp⟩
 | false => exact .inr ⟨rfl, by simp, by simp⟩
theorem wrote_clear (id st pr un most : Int) (l : List Sn) : wrote 3 id st pr un most l = (out id l, if hasS id l then 0 else 3) := by
 unfold wrote
 rw [if_neg (by decide), if_neg (by decide), if_pos rfl]
 cases h : hasS id l with
 | true => simp
 | false => simp [out_none h]
theorem wrote_else {kind : Int} (id st pr un most : Int) (l : List Sn) (h1 : kind ≠ 1) (h2 : kind ≠ 2) (h3 : kind ≠ 3) : wrote kind id st pr un most l = (l, 0) := by
 unfold wrote
 rw [if_neg h1, if_neg h2, if_neg h3]
theorem wrote_le (kind id st pr un most : Int) (l : List Sn) : (wrote kind id st pr un most l).1.length ≤ l.length + 1 := by
 unfold wrote
 split
 ·split
  ·exact put_le _ _
  ·simp
 ·split
  ·split
   ·simp only; rw [beat_length]; omega
   ·simp
  ·split
   ·split
    ·have := outK_length id l; simp only; unfold out; omega
    ·simp
   ·simp
abbrev OpV.val (q : OpV) : Value := .agg #[.int .i64 q.kind, .string q.user, .int .i64 q.id, .int .i64 q.st, .int .i64 q.pr, .int .u64 q.ttl, q.users]
end Go.Law
namespace Go.Proofs.YtohdlnefgieenaaGreat
open Go.RowKit
namespace Bk
open Go.Law Go.Proofs.YtohdlnefgieenaaGreat.OmapB Door

def Gives (w : World) (ls : List Sn) (er : Int) (e : Ending) (w' : World) : Prop := ∃ A c, e = .returned (.tuple #[.slice A ls.length c, .int .i64 er]) ∧ Lain 138 w' A (flatS ls) ∧ Below w.heap.size w w'
theorem gives {w : World} {ls : List Sn} {er : Int} {e : Ending} {w' : World} (h : Sess.Listed2 w ls er e w') : Gives w ls er e w' := by
 obtain ⟨A, c, he, hr, hb⟩ := h
 exact ⟨A, c, he, Lain.own hr, hb⟩
section
variable {us ls : List Sn} {A : Option Addr} {c : Nat} {w : World} {er : Int}
theorem set_ {s : Sn} {most : Int} (h : SetTo s most us ls er) (hs : Seq w 0 w.heap.size A (flatS us)) (hl : us.length ≤ 900) (hu : Up us) : Calls Tryz.prog 112 #[.slice A us.length c, V s, .int .i64 most] w (Gives w ls er) := by
 rcases h with ⟨h, rfl, rfl⟩ | ⟨h, hm, rfl, rfl⟩ | ⟨h, hm, rfl, rfl⟩
 ·exact (Sess.setOver s most us A c w hs hl hu h).mono fun _ _ h => gives h
 ·exact (Sess.setFull s most _ A c w hs hl h hm).mono fun _ _ h => gives h
 ·exact (Sess.setNew s most us A c w hs hl h hm).mono fun _ _ h => gives h
theorem beat_ {k u : Int} (h : BeatTo k u us ls er) (hs : Seq w 0 w.heap.size A (flatS us)) (hl : us.length ≤ 900) (hu : Up us) : Calls Tryz.prog 113 #[.slice A us.length c, .int .i64 k, .int .u64 u] w (Gives w ls er) := by
 rcases h with ⟨h, rfl, rfl⟩ | ⟨h, rfl, rfl⟩
 ·exact (Sess.beatOne k u us A c w hs hl hu h).mono fun _ _ h => gives h
 ·exact (Sess.beatNo k u _ A c w hs hl h).mono fun _ _ h => gives h
theorem clear_ {k : Int} (b : Bool) (hb : hasS k us = b) (her : er = if b then 0 else 3) (hs : Seq w 0 w.heap.size A (flatS us)) (hl : us.length ≤ 900) (hu : Up us) : Calls Tryz.prog 114 #[.slice A us.length c, .int .i64 k] w (Gives w (out k us) er) := by
 subst her
 cases b
 ·rw [out_none hb]; exact (Sess.clearNo k us A c w hs hl hb).mono fun _ _ h => gives h
 ·exact (Sess.clearOne k us A c w hs hl hu hb).mono fun _ _ h => gives h
theorem purge_ {now : Int} (e : live now us = ls) (hs : Seq w 0 w.heap.size A (flatS us)) (hl : us.length ≤ 900) : Calls Tryz.prog 85 #[.slice A us.length c, .int .u64 now] w fun e w' => ∃ A c, e = .returned (.slice A ls.length c) ∧ Lain 138 w' A (flatS ls) ∧ Below w.heap.size w w' := by
 subst e
 exact (Sess.purge now us A c w hs hl).mono fun _ _ ⟨A, c, he, hr, hb⟩ => ⟨A, c, he, Lain.own hr, hb⟩
end

set_option maxRecDepth 100000 in
set_option maxHeartbeats 4000000 in
theorem written_ (q : OpV) (now most : Int) {w : World} {A : Option Addr} {c : Nat} {us : List Sn} (hU : U now) (hT : U q.ttl) (hs : Lain 138 w A (flatS us)) (hl : us.length ≤ 900) (hu : Up us) :
  Calls Tryz.prog 97 #[.slice A us.length c, q.val, .int .u64 now, .int .i64 most] w (Gives w (wrote q.kind q.id q.st q.pr (sat now q.ttl) most us).1 (wrote q.kind q.id q.st q.pr (sat now q.ttl) most us).2) := by
 obtain ⟨kind, user, id, st, pr, ttl, users⟩ := q
 simp only [OpV.val]
 have HS := Lib.hid hs
 have HU := Lib.hid hu
 have HB := Lib.hid (Below.refl w.heap.size w)
 have HU1 := Lib.hid hU
 have HU2 : Hid (U ttl) := hT
 clear hs hu hU hT
 by_cases k1 : kind = 1
 ·subst k1
  go_enter Tryz.func97, Tryz.ntmps97
  go_wp2_with fail
  have HI0 := Lib.hid (Is.new w 37 #[.int .i64 1, .string user, .int .i64 id, .int .i64 st, .int .i64 pr, .int .u64 ttl, users] rfl)
  have bx := (Below.refl w.heap.size w).alloc (Nat.le_refl _) (.cells #[.int .i64 1, .string user, .int .i64 id, .int .i64 st, .int .i64 pr, .int .u64 ttl, users] 37)
  replace HS := Lib.hid (HS.out.now bx)
  replace HB := Lib.hid (HB.out.trans (bx.mono HB.out.size))
  generalize w.alloc (.cells #[.int .i64 1, .string user, .int .i64 id, .int .i64 st, .int .i64 pr, .int .u64 ttl, users] 37) = w1 at *
  clear bx
  refine (Tick.add now ttl HU1.out HU2.out _).mono ?_
  rintro e w' ⟨rfl, rfl⟩
  have i0 := HI0.out.cell' (i := 0) rfl
  have i1 := HI0.out.cell' (i := 1) rfl
  have i2 := HI0.out.cell' (i := 2) rfl
  have i3 := HI0.out.cell' (i := 3) rfl
  have i4 := HI0.out.cell' (i := 4) rfl
  have i5 := HI0.out.cell' (i := 5) rfl
  have i6 := HI0.out.cell' (i := 6) rfl
  generalize sat now ttl = un at *
  go_wp2_with fail
  refine (set_ (wrote_set id st pr un most us) HS.out.seq hl HU.out).mono ?_
  rintro e w2 ⟨A2, c2, rfl, s2, b2⟩
  have HS2 := Lib.hid s2
  replace HB := Lib.hid (HB.out.trans (b2.mono HB.out.size))
  clear s2 b2 i0 i1 i2 i3 i4 i5 i6
  generalize (wrote 1 id st pr un most us).1 = ls at *
  generalize (wrote 1 id st pr un most us).2 = er at *
  go_wp2_with fail
  exact bodyPost_ret (v := .tuple #[.slice A2 ls.length c2, .int .i64 er]) (by simp [results, Tryz.results97, go_sem]) rfl ⟨A2, c2, rfl, HS2.out, HB.out⟩
 ·by_cases k2 : kind = 2
  ·subst k2
   go_enter Tryz.func97, Tryz.ntmps97
   go_wp2_with fail
   have HI0 := Lib.hid (Is.new w 37 #[.int .i64 2, .string user, .int .i64 id, .int .i64 st, .int .i64 pr, .int .u64 ttl, users] rfl)
   have bx := (Below.refl w.heap.size w).alloc (Nat.le_refl _) (.cells #[.int .i64 2, .string user, .int .i64 id, .int .i64 st, .int .i64 pr, .int .u64 ttl, users] 37)
   replace HS := Lib.hid (HS.out.now bx)
   replace HB := Lib.hid (HB.out.trans (bx.mono HB.out.size))
   generalize w.alloc (.cells #[.int .i64 2, .string user, .int .i64 id, .int .i64 st, .int .i64 pr, .int .u64 ttl, users] 37) = w1 at *
   clear bx
   refine (Tick.add now ttl HU1.out HU2.out _).mono ?_
   rintro e w' ⟨rfl, rfl⟩
   have i0 := HI0.out.cell' (i := 0) rfl
   have i1 := HI0.out.cell' (i := 1) rfl
   have i2 := HI0.out.cell' (i := 2) rfl
   have i3 := HI0.out.cell' (i := 3) rfl
   have i4 := HI0.out.cell' (i := 4) rfl
   have i5 := HI0.out.cell' (i := 5) rfl
   have i6 := HI0.out.cell' (i := 6) rfl
   generalize sat now ttl = un at *
   go_wp2_with fail
   refine (beat_ (wrote_beat id st pr un most us) HS.out.seq hl HU.out).mono ?_
   rintro e w2 ⟨A2, c2, rfl, s2, b2⟩
   have HS2 := Lib.hid s2
   replace HB := Lib.hid (HB.out.trans (b2.mono HB.out.size))
   clear s2 b2 i0 i1 i2 i3 i4 i5 i6
   generalize (wrote 2 id st pr un most us).1 = ls at *
   generalize (wrote 2 id st pr un most us).2 = er at *
   go_wp2_with fail
   exact bodyPost_ret (v := .tuple #[.slice A2 ls.length c2, .int .i64 er]) (by simp [results, Tryz.results97, go_sem]) rfl ⟨A2, c2, rfl, HS2.out, HB.out⟩
  ·by_cases k3 : kind = 3
   ·subst k3
    go_enter Tryz.func97, Tryz.ntmps97
    go_wp2_with fail
    have HI0 := Lib.hid (Is.new w 37 #[.int .i64 3, .string user, .int .i64 id, .int .i64 st, .int .i64 pr, .int .u64 ttl, users] rfl)
    have bx := (Below.refl w.heap.size w).alloc (Nat.le_refl _) (.cells #[.int .i64 3, .string user, .int .i64 id, .int .i64 st, .int .i64 pr, .int .u64 ttl, users] 37)
    replace HS := Lib.hid (HS.out.now bx)
    replace HB := Lib.hid (HB.out.trans (bx.mono HB.out.size))
    generalize w.alloc (.cells #[.int .i64 3, .string user, .int .i64 id, .int .i64 st, .int .i64 pr, .int .u64 ttl, users] 37) = w1 at *
    clear bx
    refine (Tick.add now ttl HU1.out HU2.out _).mono ?_
    rintro e w' ⟨rfl, rfl⟩
    have i0 := HI0.out.cell' (i := 0) rfl
    have i1 := HI0.out.cell' (i := 1) rfl
    have i2 := HI0.out.cell' (i := 2) rfl
    have i3 := HI0.out.cell' (i := 3) rfl
    have i4 := HI0.out.cell' (i := 4) rfl
    have i5 := HI0.out.cell' (i := 5) rfl
    have i6 := HI0.out.cell' (i := 6) rfl
    generalize sat now ttl = un at *
    go_wp2_with fail
    have hG : Calls Tryz.prog 114 #[.slice A us.length c, .int .i64 id] w1 (Gives w1 (wrote 3 id st pr un most us).1 (wrote 3 id st pr un most us).2) := by rw [wrote_clear]; exact clear_ (hasS id us) rfl rfl HS.out.seq hl HU.out
    refine hG.mono ?_
    clear hG
    rintro e w2 ⟨A2, c2, rfl, s2, b2⟩
    have HS2 := Lib.hid s2
    replace HB := Lib.hid (HB.out.trans (b2.mono HB.out.size))
    clear s2 b2 i0 i1 i2 i3 i4 i5 i6
    generalize (wrote 3 id st pr un most us).1 = ls at *
    generalize (wrote 3 id st pr un most us).2 = er at *
    go_wp2_with fail
    exact bodyPost_ret (v := .tuple #[.slice A2 ls.length c2, .int .i64 er]) (by simp [results, Tryz.results97, go_sem]) rfl ⟨A2, c2, rfl, HS2.out, HB.out⟩
   ·have d1 : (kind == 1) = false := by simpa using k1
    have d2 : (kind == 2) = false := by simpa using k2
    have d3 : (kind == 3) = false := by simpa using k3
    go_enter Tryz.func97, Tryz.ntmps97
    go_wp2_with fail
    have HI0 := Lib.hid (Is.new w 37 #[.int .i64 kind, .string user, .int .i64 id, .int .i64 st, .int .i64 pr, .int .u64 ttl, users] rfl)
    have bx := (Below.refl w.heap.size w).alloc (Nat.le_refl _) (.cells #[.int .i64 kind, .string user, .int .i64 id, .int .i64 st, .int .i64 pr, .int .u64 ttl, users] 37)
    replace HS := Lib.hid (HS.out.now bx)
    replace HB := Lib.hid (HB.out.trans (bx.mono HB.out.size))
    generalize w.alloc (.cells #[.int .i64 kind, .string user, .int .i64 id, .int .i64 st, .int .i64 pr, .int .u64 ttl, users] 37) = w1 at *
    clear bx
    refine (Tick.add now ttl HU1.out HU2.out _).mono ?_
    rintro e w' ⟨rfl, rfl⟩
    have i0 := HI0.out.cell' (i := 0) rfl
    have i1 := HI0.out.cell' (i := 1) rfl
    have i2 := HI0.out.cell' (i := 2) rfl
    have i3 := HI0.out.cell' (i := 3) rfl
    have i4 := HI0.out.cell' (i := 4) rfl
    have i5 := HI0.out.cell' (i := 5) rfl
    have i6 := HI0.out.cell' (i := 6) rfl
    generalize sat now ttl = un at *
    go_wp2_with fail
    rw [wrote_else _ _ _ _ _ _ k1 k2 k3]
    exact bodyPost_ret (v := .tuple #[.slice A us.length c, .int .i64 0]) (by simp [results, Tryz.results97, go_sem]) rfl ⟨A, c, rfl, HS.out, HB.out⟩

set_option maxRecDepth 100000 in
set_option maxHeartbeats 4000000 in
theorem presence (u : ByteArray) (now : Int) {s0 s1 s2 : Int} {w : World} {p : Option Addr} {b : List (ByteArray × En)} (hp : presS now (sesK u b) = (s0, s1, s2)) (h : Booked w p b) (hR : Rises lt b) (hl : (sesK u b).length ≤ 900) :
  Calls Tryz.prog 41 #[M p, .string u, .int .u64 now] w fun e w' => e = .returned (.agg #[.int .i64 s0, .int .i64 s1, .int .i64 s2]) ∧ Below w.heap.size w w' := by
 obtain ⟨t0, t1, t2, ht⟩ : ∃ t0 t1 t2, toldK u b = (t0, t1, t2) := ⟨_, _, _, rfl⟩
 have H := Lib.hid h
 have HR := Lib.hid hR
 have HT := Lib.hid ht
 have HP := Lib.hid hp
 have HB := Lib.hid (Below.refl w.heap.size w)
 clear h hR ht hp
 generalize hss : sesK u b = ss at *
 have HSS := Lib.hid hss
 clear hss
 have b0 := ((Below.refl w.heap.size w).alloc (Nat.le_refl _) (.cells #[.pointer p] 72)).alloc (by simp) (.cells #[.int .i64 0, .int .i64 0, .int .i64 0] 57)
 have HI1 := Lib.hid (Is.new (w.alloc (.cells #[.pointer p] 72)) 57 #[.int .i64 0, .int .i64 0, .int .i64 0] (g := w.heap.size + 1) (by simp))
 replace H := Lib.hid (H.out.now b0)
 replace HB := Lib.hid (HB.out.trans (b0.mono HB.out.size))
 clear b0
 go_enter Tryz.func41, Tryz.ntmps41
 go_wp2_with fail
 generalize ((w.alloc (.cells #[.pointer p] 72)).alloc (.cells #[.int .i64 0, .int .i64 0, .int .i64 0] 57)) = w0 at *
 refine (get u HSS.out HT.out rfl H.out HR.out).mono ?_
 rintro e w1 ⟨A1, c1, rfl, sq, b1⟩
 have HS := Lib.hid sq
 replace HI1 := Lib.hid (HI1.out.below b1 HI1.out.lt)
 replace HB := Lib.hid (HB.out.trans (b1.mono HB.out.size))
 clear b1 sq H
 go_wp2_with fail
 have HI2 := Lib.hid (Is.new w1 145 #[.slice A1 ss.length c1, .int .i64 t0, .int .i64 t1, .int .i64 t2] rfl)
 have bx := (Below.refl w1.heap.size w1).alloc (Nat.le_refl _) (.cells #[.slice A1 ss.length c1, .int .i64 t0, .int .i64 t1, .int .i64 t2] 145)
 replace HI1 := Lib.hid (HI1.out.below bx HI1.out.lt)
 replace HS := Lib.hid (HS.out.now bx)
 replace HB := Lib.hid (HB.out.trans (bx.mono HB.out.size))
 generalize w1.alloc (.cells #[.slice A1 ss.length c1, .int .i64 t0, .int .i64 t1, .int .i64 t2] 145) = w2 at *
 clear bx
 refine (ofP HP.out HS.out.seq hl).mono ?_
 rintro e w3 ⟨rfl, b1⟩
 replace HI1 := Lib.hid (HI1.out.below b1 HI1.out.lt)
 replace HB := Lib.hid (HB.out.trans (b1.mono HB.out.size))
 have l1 := HI1.out.lt
 have f0 := HI1.out.frozen 0
 have f1 := HI1.out.frozen 1
 have f2 := HI1.out.frozen 2
 have m0 := HI1.out.cell' (i := 0) rfl
 have m1 := HI1.out.cell' (i := 1) rfl
 have m2 := HI1.out.cell' (i := 2) rfl
 have HI3 := Lib.hid (((HI1.out.set 0 (.int .i64 s0) rfl).set 1 (.int .i64 s1) rfl).set 2 (.int .i64 s2) rfl)
 have HB3 := Lib.hid (((HB.out.setCell (p := ⟨w.heap.size + 1, 0, none⟩) (Nat.le_succ _) (.int .i64 s0)).setCell (p := ⟨w.heap.size + 1, 1, none⟩) (Nat.le_succ _) (.int .i64 s1)).setCell (p := ⟨w.heap.size + 1, 2, none⟩) (Nat.le_succ _) (.int .i64 s2))
 clear b1 HS HI2
 go_wp2_with fail
 generalize ((w3.setCell ⟨w.heap.size + 1, 0, none⟩ (.int .i64 s0)).setCell ⟨w.heap.size + 1, 1, none⟩ (.int .i64 s1)).setCell ⟨w.heap.size + 1, 2, none⟩ (.int .i64 s2) = w4 at *
 have n0 := HI3.out.cell' (i := 0) rfl
 have n1 := HI3.out.cell' (i := 1) rfl
 have n2 := HI3.out.cell' (i := 2) rfl
 exact bodyPost_ret (v := .agg #[.int .i64 s0, .int .i64 s1, .int .i64 s2]) (by simp [results, Tryz.results41, go_sem, n0, n1, n2]) rfl ⟨rfl, HB3.out⟩
def wrS (q : OpV) (now most : Int) (b : List (ByteArray × En)) : List Sn := (wrote q.kind q.id q.st q.pr (sat now q.ttl) most (live now (sesK q.user b))).1
def wrB (q : OpV) (now most : Int) (b : List (ByteArray × En)) : List (ByteArray × En) := become lt q.user (wrS q now most b) now b
def wrC (q : OpV) (now most : Int) (b : List (ByteArray × En)) : List Ch := tells q.user (wrS q now most b) now b
def wrE (q : OpV) (now most : Int) (b : List (ByteArray × En)) : Int := (wrote q.kind q.id q.st q.pr (sat now q.ttl) most (live now (sesK q.user b))).2
def Wrote (w : World) (b : List (ByteArray × En)) (cs : List Ch) (er : Int) (e : Ending) (w' : World) : Prop := ∃ p A c, e = .returned (.tuple #[M p, .slice A cs.length c, .int .i64 er]) ∧ Booked w' p b ∧ Lain 185 w' A (flatC cs) ∧ Below w.heap.size w w'

set_option maxRecDepth 100000 in
set_option maxHeartbeats 4000000 in
theorem write (q : OpV) (now most : Int) {w : World} {p : Option Addr} {b : List (ByteArray × En)} (hU : U now) (hT : U q.ttl) (h : Booked w p b) (hb : Book lt b) (hl : (sesK q.user b).length ≤ 899) (hn : b.length ≤ 900) :
  Calls Tryz.prog 73 #[M p, q.val, .int .u64 now, .int .i64 most] w (Wrote w (wrB q now most b) (wrC q now most b) (wrE q now most b)) := by
 obtain ⟨t0, t1, t2, ht⟩ : ∃ t0 t1 t2, toldK q.user b = (t0, t1, t2) := ⟨_, _, _, rfl⟩
 obtain ⟨ss, hss⟩ : ∃ ss, sesK q.user b = ss := ⟨_, rfl⟩
 rw [hss] at hl
 have hup : Up ss := hss ▸ hb.ses lt q.user
 have hvl := live_length now ss
 have HVU := Lib.hid (live_up now hup)
 have HG : Hid (∀ {W : World} {A : Option Addr} {c : Nat}, Lain 138 W A (flatS (live now ss)) → Calls Tryz.prog 97 #[.slice A (live now ss).length c, q.val, .int .u64 now, .int .i64 most] W (Gives W (wrS q now most b) (wrE q now most b))) := by
  intro W A c hs
  have := written_ q now most (c := c) hU hT hs (by omega) HVU.out
  unfold wrS wrE
  rw [hss]
  exact this
 have HBM : Hid (∀ {W : World} {A : Option Addr} {c : Nat}, Booked W p b → Lain 138 W A (flatS (wrS q now most b)) → Calls Tryz.prog 84 #[M p, .string q.user, .slice A (wrS q now most b).length c, .int .u64 now] W (Told W (wrB q now most b) (wrC q now most b))) := by
  intro W A c hB hs
  refine become_ q.user (wrS q now most b) now hB hb.1 hs ?_ hn
  have := wrote_le q.kind q.id q.st q.pr (sat now q.ttl) most (live now ss)
  unfold wrS
  rw [hss]
  omega
 have H := Lib.hid h
 have HR := Lib.hid hb.1
 have HT := Lib.hid ht
 have HSS := Lib.hid hss
 have HB := Lib.hid (Below.refl w.heap.size w)
 clear h hb ht hss hU hT HVU hup hn hvl
 generalize wrS q now most b = ls at *
 generalize wrB q now most b = b' at *
 generalize wrC q now most b = cs at *
 generalize wrE q now most b = er at *
 obtain ⟨kind, user, id, st, pr, ttl, users⟩ := q
 simp only [OpV.val] at *
 go_enter Tryz.func73, Tryz.ntmps73
 go_wp2_with fail
 have bx := ((((Below.refl w.heap.size w).alloc (Nat.le_refl _) (.cells #[.pointer p] 72)).alloc (by simp only [World.size_alloc]; omega) (.cells #[.int .i64 kind, .string user, .int .i64 id, .int .i64 st, .int .i64 pr, .int .u64 ttl, users] 37)).alloc (by simp only [World.size_alloc]; omega) (.cells #[.pointer none] 72))
 have HI0 := Lib.hid (((Is.new w 72 #[.pointer p] rfl).alloc (.cells #[.int .i64 kind, .string user, .int .i64 id, .int .i64 st, .int .i64 pr, .int .u64 ttl, users] 37)).alloc (.cells #[.pointer none] 72))
 have HI1 := Lib.hid ((Is.new (w.alloc (.cells #[.pointer p] 72)) 37 #[.int .i64 kind, .string user, .int .i64 id, .int .i64 st, .int .i64 pr, .int .u64 ttl, users] (g := w.heap.size + 1) (by simp only [World.size_alloc])).alloc (.cells #[.pointer none] 72))
 have HI2 := Lib.hid (Is.new ((w.alloc (.cells #[.pointer p] 72)).alloc (.cells #[.int .i64 kind, .string user, .int .i64 id, .int .i64 st, .int .i64 pr, .int .u64 ttl, users] 37)) 72 #[.pointer none] (g := w.heap.size + 1 + 1) (by simp only [World.size_alloc]))
 replace H := Lib.hid (H.out.now bx)
 replace HB := Lib.hid (HB.out.trans (bx.mono HB.out.size))
 generalize (((w.alloc (.cells #[.pointer p] 72)).alloc (.cells #[.int .i64 kind, .string user, .int .i64 id, .int .i64 st, .int .i64 pr, .int .u64 ttl, users] 37)).alloc (.cells #[.pointer none] 72)) = w0 at *
 clear bx
 refine (get user HSS.out HT.out rfl H.out HR.out).mono ?_
 rintro e w1 ⟨A1, c1, rfl, sq, b1⟩
 have HS := Lib.hid sq
 replace HI0 := Lib.hid (HI0.out.below b1 HI0.out.lt)
 replace HI1 := Lib.hid (HI1.out.below b1 HI1.out.lt)
 replace HI2 := Lib.hid (HI2.out.below b1 HI2.out.lt)
 replace H := Lib.hid (H.out.now b1)
 replace HB := Lib.hid (HB.out.trans (b1.mono HB.out.size))
 clear b1 sq
 go_wp2_with fail
 have HI3 := Lib.hid (Is.new w1 145 #[.slice A1 ss.length c1, .int .i64 t0, .int .i64 t1, .int .i64 t2] rfl)
 have bx := (Below.refl w1.heap.size w1).alloc (Nat.le_refl _) (.cells #[.slice A1 ss.length c1, .int .i64 t0, .int .i64 t1, .int .i64 t2] 145)
 replace HI0 := Lib.hid (HI0.out.below bx HI0.out.lt)
 replace HI1 := Lib.hid (HI1.out.below bx HI1.out.lt)
 replace HI2 := Lib.hid (HI2.out.below bx HI2.out.lt)
 replace HS := Lib.hid (HS.out.now bx)
 replace H := Lib.hid (H.out.now bx)
 replace HB := Lib.hid (HB.out.trans (bx.mono HB.out.size))
 generalize w1.alloc (.cells #[.slice A1 ss.length c1, .int .i64 t0, .int .i64 t1, .int .i64 t2] 145) = w2 at *
 clear bx
 have HPU : Hid (∀ w', Kept w2 w' → Calls Tryz.prog 85 #[.slice A1 ss.length c1, .int .u64 now] w' fun e w'' => ∃ A c, e = .returned (.slice A (live now ss).length c) ∧ Lain 138 w'' A (flatS (live now ss)) ∧ Kept w2 w'') := fun w' K =>
  (purge_ rfl (HS.out.now K).seq (by omega)).mono fun _ _ ⟨A, c, he, hs, hb⟩ => ⟨A, c, he, hs, Below.trans K (Below.mono hb K.size)⟩
 have HWR : Hid (∀ w' A c, Kept w2 w' → Lain 138 w' A (flatS (live now ss)) → Calls Tryz.prog 97 #[.slice A (live now ss).length c, .agg #[.int .i64 kind, .string user, .int .i64 id, .int .i64 st, .int .i64 pr, .int .u64 ttl, users], .int .u64 now, .int .i64 most] w' fun e w'' => ∃ A c, e = .returned (.tuple #[.slice A ls.length c, .int .i64 er]) ∧ Lain 138 w'' A (flatS ls) ∧ Kept w2 w'') := fun w' A c K hs =>
  (HG.out hs).mono fun _ _ ⟨A, c, he, hs, hb⟩ => ⟨A, c, he, hs, Below.trans K (Below.mono hb K.size)⟩
 have HK : Hid (∀ w', Kept w2 w' → (w'.cell? ⟨w1.heap.size, 0, none⟩ = some (.slice A1 ss.length c1) ∧ w'.cell? ⟨w.heap.size + 1, 0, none⟩ = some (.int .i64 kind) ∧ w'.cell? ⟨w.heap.size + 1, 1, none⟩ = some (.string user) ∧ w'.cell? ⟨w.heap.size + 1, 2, none⟩ = some (.int .i64 id) ∧ w'.cell? ⟨w.heap.size + 1, 3, none⟩ = some (.int .i64 st) ∧ w'.cell? ⟨w.heap.size + 1, 4, none⟩ = some (.int .i64 pr) ∧ w'.cell? ⟨w.heap.size + 1, 5, none⟩ = some (.int .u64 ttl) ∧ w'.cell? ⟨w.heap.size + 1, 6, none⟩ = some (users)) ∧ Kept w2 w') := fun w' K => ⟨⟨(HI3.out.below K HI3.out.lt).cell' rfl, (HI1.out.below K HI1.out.lt).cell' rfl, (HI1.out.below K HI1.out.lt).cell' rfl, (HI1.out.below K HI1.out.lt).cell' rfl, (HI1.out.below K HI1.out.lt).cell' rfl, (HI1.out.below K HI1.out.lt).cell' rfl, (HI1.out.below K HI1.out.lt).cell' rfl, (HI1.out.below K HI1.out.lt).cell' rfl⟩, K⟩
 have K0 : Kept w2 (w2.drewN 1) := Kept.drew w2
 clear HG HS
 generalize live now ss = vs at *
 go_region_held3 (fun w' => (w'.cell? ⟨w1.heap.size, 0, none⟩ = some (.slice A1 ss.length c1) ∧ w'.cell? ⟨w.heap.size + 1, 0, none⟩ = some (.int .i64 kind) ∧ w'.cell? ⟨w.heap.size + 1, 1, none⟩ = some (.string user) ∧ w'.cell? ⟨w.heap.size + 1, 2, none⟩ = some (.int .i64 id) ∧ w'.cell? ⟨w.heap.size + 1, 3, none⟩ = some (.int .i64 st) ∧ w'.cell? ⟨w.heap.size + 1, 4, none⟩ = some (.int .i64 pr) ∧ w'.cell? ⟨w.heap.size + 1, 5, none⟩ = some (.int .u64 ttl) ∧ w'.cell? ⟨w.heap.size + 1, 6, none⟩ = some (users)) ∧ Kept w2 w') (exact HK.out _ (by assumption)) (first
  | (go_at_call 85; refine (HPU.out _ (by assumption)).mono ?_; rintro e w3 ⟨A3, c3, rfl, sq, K3⟩; have HV := Lib.hid sq; clear sq)
  | (go_at_call 97; refine (HWR.out _ _ _ (by assumption) HV.out).mono ?_; rintro e w4 ⟨A4, c4, rfl, sq, K4⟩; have HL := Lib.hid sq; clear sq))
 have b1 : Below w2.heap.size w2 w4 := K4
 replace HI0 := Lib.hid (HI0.out.below b1 HI0.out.lt)
 replace HI1 := Lib.hid (HI1.out.below b1 HI1.out.lt)
 replace HI2 := Lib.hid (HI2.out.below b1 HI2.out.lt)
 replace H := Lib.hid (H.out.now b1)
 replace HB := Lib.hid (HB.out.trans (b1.mono HB.out.size))
 clear b1 HPU HWR HK K0
 have y1 := HI1.out.cell' (i := 1) rfl
 have y0 := HI0.out.cell' (i := 0) rfl
 go_wp2_with fail
 refine (HBM.out H.out HL.out).mono ?_
 rintro e w5 ⟨p5, A5, c5, rfl, k5, q5, b1⟩
 replace HI0 := Lib.hid (HI0.out.below b1 HI0.out.lt)
 replace HI1 := Lib.hid (HI1.out.below b1 HI1.out.lt)
 replace HI2 := Lib.hid (HI2.out.below b1 HI2.out.lt)
 replace HB := Lib.hid (HB.out.trans (b1.mono HB.out.size))
 have HK5 := Lib.hid ((k5.store (i := 0) HI0.out (by decide) (by decide) (.pointer p5)).store (i := 0) (HI2.out.far (p := ⟨w.heap.size, 0, none⟩) (by simp; omega) (.pointer p5)) (by decide) (by decide) (.pointer p5))
 have HQ5 := Lib.hid ((q5.keeps (Keeps.store (i := 0) HI0.out (by decide) (.pointer p5))).keeps (Keeps.store (i := 0) (HI2.out.far (p := ⟨w.heap.size, 0, none⟩) (by simp; omega) (.pointer p5)) (by decide) (.pointer p5)))
 have HI5 := Lib.hid ((HI2.out.far (p := ⟨w.heap.size, 0, none⟩) (by simp; omega) (.pointer p5)).set 0 (.pointer p5) rfl)
 have HB5 := Lib.hid ((HB.out.setCell (p := ⟨w.heap.size, 0, none⟩) (Nat.le_refl _) (.pointer p5)).setCell (p := ⟨w.heap.size + 1 + 1, 0, none⟩) (by simp; omega) (.pointer p5))
 have z0 := HI0.out.cell' (i := 0) rfl
 have f0 := HI0.out.frozen 0
 have l0 := HI0.out.lt
 have z2 := HI2.out.cell' (i := 0) rfl
 have f2 := HI2.out.frozen 0
 have l2 := HI2.out.lt
 clear k5 q5 b1 y0 y1 H HL HI0 HI1 HI2
 go_wp2_with fail
 generalize (w5.setCell ⟨w.heap.size, 0, none⟩ (.pointer p5)).setCell ⟨w.heap.size + 1 + 1, 0, none⟩ (.pointer p5) = w6 at *
 have n0 := HI5.out.cell' (i := 0) rfl
 exact bodyPost_ret (v := .tuple #[M p5, .slice A5 cs.length c5, .int .i64 er]) (by simp [results, Tryz.results73, go_sem, n0]) rfl ⟨p5, A5, c5, rfl, HK5.out, HQ5.out, HB5.out⟩
end Bk
end Go.Proofs.YtohdlnefgieenaaGreat
