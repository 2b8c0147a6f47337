/-
  What the calls of layer 8 (book) come to: Get of a book, become, Presence.
-/
import Derived.Test.YtdkjcheannehhaaGreatJ5
import Derived.Test.YtdkjcheannehhaaGreatJ9
import Derived.Test.YtdkjcheannehhaaGreatJ11
import Derived.Test.YtdkjcheannehhaaGreatJ15
import Derived.Deep.RegionHeld3
import Derived.Lib.QuietBelow
import Derived.Test.YtdkjcheannehhaaGreatJ4
namespace Go.Proofs.YtdkjcheannehhaaGreat
open Go.RowKit
namespace Bk
open Go.Law Go.Proofs.YtdkjcheannehhaaGreat.OmapB
/-- at p lies a book -/
def Booked (w : World) (p : Option Addr) (b : List (ByteArray × En)) : Prop := ∃ xs, At w w.heap.size p xs ∧ (∀ q ∈ xs, q.2.In 143 w) ∧ mapV EnV.en xs = b
/-- nodes and sessions lie as they lay -/
structure Calm (w w' : World) : Prop where
  node : Keeps 173 w w'
  ses : Keeps 143 w w'
section
variable {w w' w'' : World} {p : Option Addr} {b : List (ByteArray × En)}
theorem Calm.of_below (hb : Below w.heap.size w w') : Calm w w' := ⟨Keeps.of_below hb, Keeps.of_below hb⟩
theorem Calm.refl (w : World) : Calm w w := ⟨Keeps.refl _ _, Keeps.refl _ _⟩
theorem Calm.trans (h : Calm w w') (h' : Calm w' w'') : Calm w w'' := ⟨h.node.trans h'.node, h.ses.trans h'.ses⟩
theorem Calm.store {g i : Nat} {t' : TypeId} {cs : Array Value} (hg : Is w g t' cs) (h1 : 173 ≠ t') (h2 : 143 ≠ t') (u : Value) : Calm w (w.setCell ⟨g, i, none⟩ u) := ⟨Keeps.store hg h1 u, Keeps.store hg h2 u⟩
theorem Calm.grown {e : TypeId} {base size n : Nat} {v : Value} {xs : List Value} (h : w.ownsRow base e size v n xs) (hg : w.grownBy w' v.ownBlock) (h1 : e ≠ 173) (h2 : e ≠ 143) : Calm w w' := ⟨Keeps.grown h hg h1, Keeps.grown h hg h2⟩
theorem Booked.calm (h : Booked w p b) (hc : Calm w w') : Booked w' p b := by
  obtain ⟨xs, h1, h2, h3⟩ := h
  exact ⟨xs, (h1.keeps hc.node).wide hc.node.size, fun q hq => (h2 q hq).keeps hc.ses, h3⟩
theorem Booked.nil (w : World) : Booked w none [] := ⟨[], .nil, (fun _ h => by cases h), rfl⟩
theorem Booked.now (h : Booked w p b) (hb : Below w.heap.size w w') : Booked w' p b := h.calm (Calm.of_below hb)
theorem Booked.store (h : Booked w p b) {g i : Nat} {t' : TypeId} {cs : Array Value} (hg : Is w g t' cs) (h1 : 173 ≠ t') (h2 : 143 ≠ t') (u : Value) : Booked (w.setCell ⟨g, i, none⟩ u) p b := h.calm (Calm.store hg h1 h2 u)
end
theorem get (k : ByteArray) {w : World} {p : Option Addr} {b : List (ByteArray × En)} {ss : List Sn} {t0 t1 t2 : Int} {r : Bool} (hss : sesK k b = ss) (ht : toldK k b = (t0, t1, t2)) (hr : (getK k b).isSome = r) (h : Booked w p b) (hR : Rises lt b) :
    Calls Tryz.prog 76 #[M p, .string k] w fun e w' => ∃ A c, e = .returned (.tuple #[.agg #[.slice A ss.length c, .int .i64 t0, .int .i64 t1, .int .i64 t2], .bool r]) ∧ Lain 143 w' A (flatS ss) ∧ Below w.heap.size w w' := by
  obtain ⟨xs, h1, h2, rfl⟩ := h
  refine (OmapB.get k h1 (Nat.le_refl _) ((mapV_rises lt).1 hR)).mono ?_
  rintro e w' ⟨rfl, hb⟩
  have e1 := get_ses (xs := xs) k
  have e2 := get_told (xs := xs) k
  have e3 := get_in (w := w) k h2
  have e4 : (getK k xs).isSome = r := by rw [← hr, mapV_get]; simp
  rw [hss] at e1
  rw [ht] at e2
  generalize (getK k xs).getD EnV.zero = v at *
  injection e2 with f0 f1
  injection f1 with f1 f2
  refine ⟨v.A, v.c, ?_, ?_, hb⟩
  · rw [e4, EnV.val, e3.1, e1, f0, f1, f2]
  · rw [← e1]; exact e3.2.now hb
theorem ofP {now : Int} {zs : List Sn} {s0 s1 s2 : Int} (hp : presS now zs = (s0, s1, s2)) {A : Option Addr} {c : Nat} {w : World} (hs : Seq w 0 w.heap.size A (flatS zs)) (hl : zs.length ≤ 900) :
    Calls Tryz.prog 77 #[.slice A zs.length c, .int .u64 now] w fun e w' => e = .returned (.agg #[.int .i64 s0, .int .i64 s1, .int .i64 s2]) ∧ Below w.heap.size w w' := by
  refine (Aggr.of_ now zs A c w hs (by unfold maxLen; omega)).mono fun e w' ⟨h1, h2⟩ => ⟨?_, h2⟩
  rw [h1]
  unfold presS at hp
  injection hp with f0 f1
  injection f1 with f1 f2
  rw [Aggr.PV, f0, f1, f2]
/-- behind what makes a book of another, and tells -/
def Told (w : World) (b : List (ByteArray × En)) (cs : List Ch) (e : Ending) (w' : World) : Prop := ∃ p A c, e = .returned (.tuple #[M p, .slice A cs.length c]) ∧ Booked w' p b ∧ Lain 181 w' A (flatC cs) ∧ Below w.heap.size w w'

set_option maxRecDepth 100000 in
set_option maxHeartbeats 8000000 in
theorem become_ (u : ByteArray) (ss : List Sn) (now : Int) {w : World} {p A : Option Addr} {c : Nat} {b : List (ByteArray × En)} (h : Booked w p b) (hR : Rises lt b) (hs : Lain 143 w A (flatS ss)) (hl : ss.length ≤ 900) (hn : b.length ≤ 900) :
    Calls Tryz.prog 86 #[M p, .string u, .slice A ss.length c, .int .u64 now] w (Told w (become lt u ss now b) (tells u ss now b)) := by
  obtain ⟨t0, t1, t2, ht⟩ : ∃ t0 t1 t2, toldK u b = (t0, t1, t2) := ⟨_, _, _, rfl⟩
  obtain ⟨s0, s1, s2, hp⟩ : ∃ s0 s1 s2, presS now ss = (s0, s1, s2) := ⟨_, _, _, rfl⟩
  have H := Lib.hid h
  obtain ⟨xs, hx1, hx2, hx3⟩ := h
  have HX := Lib.hid hx1
  have HIN := Lib.hid hx2
  have HM := Lib.hid hx3
  have hxn : xs.length ≤ 900 := by rw [← hx3, mapV_length] at hn; exact hn
  have HXR : Hid (Rises lt xs) := (mapV_rises lt (f := EnV.en)).1 (by rw [hx3]; exact hR)
  have HR := Lib.hid hR
  have HS := Lib.hid hs
  have HSO := Lib.hid hs
  have HT := Lib.hid ht
  have HP := Lib.hid hp
  have HEQ : Hid (tells u ss now b = if (s0, s1, s2) = (t0, t1, t2) then [] else [(u, (t0, t1, t2), (s0, s1, s2))]) := by show _ = _; unfold tells; rw [hp, ht]
  have HBE : Hid (become lt u ss now b = if ss = [] then outK u b else putK lt u (ss, s0, s1, s2) b) := by show _ = _; unfold become; rw [hp]
  clear hR hs ht hp hx1 hx2 hx3 hn
  have I0 : Is ((w.alloc (.cells #[.pointer p] 77)).alloc (.cells #[.pointer none] 77)) w.heap.size 77 #[.pointer p] := (Is.new w _ _ rfl).alloc _
  have I1 : Is ((w.alloc (.cells #[.pointer p] 77)).alloc (.cells #[.pointer none] 77)) (w.heap.size + 1) 77 #[.pointer none] := Is.new _ _ _ (by simp)
  have b0 : Below w.heap.size w ((w.alloc (.cells #[.pointer p] 77)).alloc (.cells #[.pointer none] 77)) := ((Below.refl _ w).alloc (Nat.le_refl _) _).alloc (by simp) _
  have HI0 := Lib.hid I0
  have HI1 := Lib.hid I1
  have HB := Lib.hid b0
  replace H := Lib.hid (H.out.now b0)
  replace HS := Lib.hid (HS.out.now b0)
  replace HX := Lib.hid ((HX.out.under b0).wide b0.size)
  clear I0 I1 b0
  go_enter Tryz.func86, Tryz.ntmps86
  go_wp2_with fail
  generalize ((w.alloc (.cells #[.pointer p] 77)).alloc (.cells #[.pointer none] 77)) = w0 at *
  refine (get u rfl HT.out rfl H.out HR.out).mono ?_
  rintro e w1 ⟨A1, c1, rfl, _, b1⟩
  replace HI0 := Lib.hid (HI0.out.below b1 HI0.out.lt)
  replace HI1 := Lib.hid (HI1.out.below b1 HI1.out.lt)
  replace HS := Lib.hid (HS.out.now b1)
  replace HX := Lib.hid ((HX.out.under b1).wide b1.size)
  replace HB := Lib.hid (HB.out.trans (b1.mono HB.out.size))
  clear b1 H
  have i0 := HI0.out.cell' (i := 0) rfl
  go_wp2_with fail
  have HI2 := Lib.hid (Is.new w1 150 #[.slice A1 (sesK u b).length c1, .int .i64 t0, .int .i64 t1, .int .i64 t2] rfl)
  have bx := (Below.refl w1.heap.size w1).alloc (Nat.le_refl _) (.cells #[.slice A1 (sesK u b).length c1, .int .i64 t0, .int .i64 t1, .int .i64 t2] 150)
  replace HI0 := Lib.hid (HI0.out.below bx HI0.out.lt)
  replace HI1 := Lib.hid (HI1.out.below bx HI1.out.lt)
  replace HS := Lib.hid (HS.out.now bx)
  replace HX := Lib.hid ((HX.out.under bx).wide bx.size)
  replace HB := Lib.hid (HB.out.trans (bx.mono HB.out.size))
  generalize w1.alloc (.cells #[.slice A1 (sesK u b).length c1, .int .i64 t0, .int .i64 t1, .int .i64 t2] 150) = w2 at *
  clear bx
  refine (ofP HP.out HS.out.seq hl).mono ?_
  rintro e w3 ⟨rfl, b1⟩
  replace HI0 := Lib.hid (HI0.out.below b1 HI0.out.lt)
  replace HI1 := Lib.hid (HI1.out.below b1 HI1.out.lt)
  replace HI2 := Lib.hid (HI2.out.below b1 HI2.out.lt)
  replace HX := Lib.hid ((HX.out.under b1).wide b1.size)
  replace HB := Lib.hid (HB.out.trans (b1.mono HB.out.size))
  clear b1 HS i0
  have k1 := HI2.out.cell' (i := 1) rfl
  have k2 := HI2.out.cell' (i := 2) rfl
  have k3 := HI2.out.cell' (i := 3) rfl
  have l2 := HI2.out.lt
  have j0 := HI0.out.cell' (i := 0) rfl
  have l0 := HI0.out.lt
  by_cases q0 : s0 = t0
  · by_cases q1 : s1 = t1
    · by_cases q2 : s2 = t2
      · have e1 : (s0 == t0) = true := by simpa using q0
        have e2 : (s1 == t1) = true := by simpa using q1
        have e3 : (s2 == t2) = true := by simpa using q2
        have HE : Hid (tells u ss now b = []) := by show _ = _; rw [HEQ.out, if_pos (by rw [q0, q1, q2])]
        by_cases qe : ss = []
        · have HF : Hid (become lt u ss now b = outK u b) := by show _ = _; rw [HBE.out, if_pos qe]
          have e4 : ((ss.length : Int) == 0) = true := by subst qe; rfl
          clear qe
          clear q0 q1 q2
          go_wp2_with fail
          have b1 := (Below.refl w3.heap.size w3).alloc (Nat.le_refl _) (.cells #[.int .i64 s0, .int .i64 s1, .int .i64 s2] 57)
          have hg : w.heap.size + 1 < w3.heap.size := HI1.out.lt
          replace HI1 := Lib.hid (HI1.out.below b1 HI1.out.lt)
          replace HX := Lib.hid ((HX.out.under b1).wide b1.size)
          replace HB := Lib.hid (HB.out.trans (b1.mono HB.out.size))
          clear b1
          generalize w3.alloc (.cells #[.int .i64 s0, .int .i64 s1, .int .i64 s2] 57) = w4 at *
          refine (withoutM u HX.out (Nat.le_refl _) HXR.out (by omega)).mono ?_
          rintro e w5 ⟨p5, rfl, t5, b1⟩
          replace HI1 := Lib.hid (HI1.out.below b1 HI1.out.lt)
          replace HB := Lib.hid (HB.out.trans (b1.mono HB.out.size))
          have HX5 := Lib.hid (t5.far (i := 0) HI1.out (by decide) (.pointer p5))
          have HB5 := Lib.hid (HB.out.setCell (p := ⟨w.heap.size + 1, 0, none⟩) (Nat.le_succ _) (.pointer p5))
          have HI5 := Lib.hid (HI1.out.set 0 (.pointer p5) rfl)
          have l1 := HI1.out.lt
          have f1 := HI1.out.frozen 0
          have m1 := HI1.out.cell' (i := 0) rfl
          clear t5 b1 k1 k2 k3 l2 j0 l0 HX
          go_wp2_with fail
          have e9 : w5.heap.size = (w5.setCell ⟨w.heap.size + 1, 0, none⟩ (.pointer p5)).heap.size := by simp
          rw [e9] at HX5
          clear e9 m1 f1 l1
          generalize w5.setCell ⟨w.heap.size + 1, 0, none⟩ (.pointer p5) = w6 at *
          have c6 := HI5.out.cell' (i := 0) rfl
          refine bodyPost_ret (v := .tuple #[M p5, .slice none 0 0]) (by simp [results, Tryz.results86, go_sem, c6]) rfl ?_
          rw [HE.out, HF.out]
          refine ⟨p5, none, 0, rfl, ⟨_, HX5.out, ?_, ?_⟩, Lain.nil, HB5.out⟩
          · exact fun q hq => (HIN.out q (List.mem_filter.1 hq).1).keeps (Keeps.of_below HB5.out)
          · rw [mapV_out, HM.out]
        · have HF : Hid (become lt u ss now b = putK lt u (ss, s0, s1, s2) b) := by show _ = _; rw [HBE.out, if_neg qe]
          have e4 : ((ss.length : Int) == 0) = false := by have := List.length_pos_iff.2 qe; simp; omega
          clear q0 q1 q2
          go_wp2_with fail
          have b1 := (Below.refl w3.heap.size w3).alloc (Nat.le_refl _) (.cells #[.int .i64 s0, .int .i64 s1, .int .i64 s2] 57)
          have hg : w.heap.size + 1 < w3.heap.size := HI1.out.lt
          replace HI1 := Lib.hid (HI1.out.below b1 HI1.out.lt)
          replace HX := Lib.hid ((HX.out.under b1).wide b1.size)
          replace HB := Lib.hid (HB.out.trans (b1.mono HB.out.size))
          clear b1
          generalize w3.alloc (.cells #[.int .i64 s0, .int .i64 s1, .int .i64 s2] 57) = w4 at *
          refine (withM u (EnV.mk A ss.length c s0 s1 s2 ss) HX.out (Nat.le_refl _) HXR.out (by omega)).mono ?_
          rintro e w5 ⟨p5, rfl, t5, b1⟩
          replace HI1 := Lib.hid (HI1.out.below b1 HI1.out.lt)
          replace HB := Lib.hid (HB.out.trans (b1.mono HB.out.size))
          have HX5 := Lib.hid (t5.far (i := 0) HI1.out (by decide) (.pointer p5))
          have HB5 := Lib.hid (HB.out.setCell (p := ⟨w.heap.size + 1, 0, none⟩) (Nat.le_succ _) (.pointer p5))
          have HI5 := Lib.hid (HI1.out.set 0 (.pointer p5) rfl)
          have l1 := HI1.out.lt
          have f1 := HI1.out.frozen 0
          have m1 := HI1.out.cell' (i := 0) rfl
          clear t5 b1 k1 k2 k3 l2 j0 l0 HX
          go_wp2_with fail
          have e9 : w5.heap.size = (w5.setCell ⟨w.heap.size + 1, 0, none⟩ (.pointer p5)).heap.size := by simp
          rw [e9] at HX5
          clear e9 m1 f1 l1
          generalize w5.setCell ⟨w.heap.size + 1, 0, none⟩ (.pointer p5) = w6 at *
          have c6 := HI5.out.cell' (i := 0) rfl
          refine bodyPost_ret (v := .tuple #[M p5, .slice none 0 0]) (by simp [results, Tryz.results86, go_sem, c6]) rfl ?_
          rw [HE.out, HF.out]
          refine ⟨p5, none, 0, rfl, ⟨_, HX5.out, ?_, ?_⟩, Lain.nil, HB5.out⟩
          · intro q hq
            rcases putK_mem lt hq with rfl | hq
            · exact ⟨rfl, HSO.out.now HB5.out⟩
            · exact (HIN.out q hq).keeps (Keeps.of_below HB5.out)
          · rw [mapV_put, HM.out]; rfl
      · have e1 : (s0 == t0) = true := by simpa using q0
        have e2 : (s1 == t1) = true := by simpa using q1
        have e3 : (s2 == t2) = false := by simpa using q2
        have HE : Hid (tells u ss now b = [(u, (t0, t1, t2), (s0, s1, s2))]) := by show _ = _; rw [HEQ.out, if_neg (by intro h; injection h with h0 h; injection h with h1 h2; exact q2 h2)]
        by_cases qe : ss = []
        · have HF : Hid (become lt u ss now b = outK u b) := by show _ = _; rw [HBE.out, if_pos qe]
          have e4 : ((ss.length : Int) == 0) = true := by subst qe; rfl
          clear qe
          clear q0 q1 q2
          go_wp2_with fail
          have b1 := ((Below.refl w3.heap.size w3).alloc (Nat.le_refl _) (.cells #[.int .i64 s0, .int .i64 s1, .int .i64 s2] 57)).alloc (by simp) (.cells #[.string u, .int .i64 t0, .int .i64 t1, .int .i64 t2, .int .i64 s0, .int .i64 s1, .int .i64 s2] 181)
          have HIC := Lib.hid (Is.new (w3.alloc (.cells #[.int .i64 s0, .int .i64 s1, .int .i64 s2] 57)) 181 #[.string u, .int .i64 t0, .int .i64 t1, .int .i64 t2, .int .i64 s0, .int .i64 s1, .int .i64 s2] (g := w3.heap.size + 1) (by simp))
          have hg : w.heap.size + 1 < w3.heap.size := HI1.out.lt
          replace HI1 := Lib.hid (HI1.out.below b1 HI1.out.lt)
          replace HX := Lib.hid ((HX.out.under b1).wide b1.size)
          replace HB := Lib.hid (HB.out.trans (b1.mono HB.out.size))
          clear b1
          generalize ((w3.alloc (.cells #[.int .i64 s0, .int .i64 s1, .int .i64 s2] 57)).alloc (.cells #[.string u, .int .i64 t0, .int .i64 t1, .int .i64 t2, .int .i64 s0, .int .i64 s1, .int .i64 s2] 181)) = w4 at *
          refine (withoutM u HX.out (Nat.le_refl _) HXR.out (by omega)).mono ?_
          rintro e w5 ⟨p5, rfl, t5, b1⟩
          replace HI1 := Lib.hid (HI1.out.below b1 HI1.out.lt)
          replace HIC := Lib.hid (HIC.out.below b1 HIC.out.lt)
          replace HB := Lib.hid (HB.out.trans (b1.mono HB.out.size))
          have HX5 := Lib.hid (t5.far (i := 0) HI1.out (by decide) (.pointer p5))
          have HIC5 := Lib.hid (HIC.out.far (p := ⟨w.heap.size + 1, 0, none⟩) (by simp; omega) (.pointer p5))
          have HB5 := Lib.hid (HB.out.setCell (p := ⟨w.heap.size + 1, 0, none⟩) (Nat.le_succ _) (.pointer p5))
          have HI5 := Lib.hid (HI1.out.set 0 (.pointer p5) rfl)
          have l1 := HI1.out.lt
          have f1 := HI1.out.frozen 0
          have m1 := HI1.out.cell' (i := 0) rfl
          clear t5 b1 k1 k2 k3 l2 j0 l0 HX HIC
          go_wp2_with fail
          have e9 : w5.heap.size = (w5.setCell ⟨w.heap.size + 1, 0, none⟩ (.pointer p5)).heap.size := by simp
          rw [e9] at HX5
          clear e9 m1 f1 l1
          generalize w5.setCell ⟨w.heap.size + 1, 0, none⟩ (.pointer p5) = w6 at *
          have c6 := HI5.out.cell' (i := 0) rfl
          refine bodyPost_ret (v := .tuple #[M p5, .slice (some ⟨w3.heap.size + 1, 0, none⟩) 1 1]) (by simp [results, Tryz.results86, go_sem, c6]) rfl ?_
          rw [HE.out, HF.out]
          refine ⟨p5, _, _, rfl, ⟨_, HX5.out, ?_, ?_⟩, Lain.is HIC5.out rfl, HB5.out⟩
          · exact fun q hq => (HIN.out q (List.mem_filter.1 hq).1).keeps (Keeps.of_below HB5.out)
          · rw [mapV_out, HM.out]
        · have HF : Hid (become lt u ss now b = putK lt u (ss, s0, s1, s2) b) := by show _ = _; rw [HBE.out, if_neg qe]
          have e4 : ((ss.length : Int) == 0) = false := by have := List.length_pos_iff.2 qe; simp; omega
          clear q0 q1 q2
          go_wp2_with fail
          have b1 := ((Below.refl w3.heap.size w3).alloc (Nat.le_refl _) (.cells #[.int .i64 s0, .int .i64 s1, .int .i64 s2] 57)).alloc (by simp) (.cells #[.string u, .int .i64 t0, .int .i64 t1, .int .i64 t2, .int .i64 s0, .int .i64 s1, .int .i64 s2] 181)
          have HIC := Lib.hid (Is.new (w3.alloc (.cells #[.int .i64 s0, .int .i64 s1, .int .i64 s2] 57)) 181 #[.string u, .int .i64 t0, .int .i64 t1, .int .i64 t2, .int .i64 s0, .int .i64 s1, .int .i64 s2] (g := w3.heap.size + 1) (by simp))
          have hg : w.heap.size + 1 < w3.heap.size := HI1.out.lt
          replace HI1 := Lib.hid (HI1.out.below b1 HI1.out.lt)
          replace HX := Lib.hid ((HX.out.under b1).wide b1.size)
          replace HB := Lib.hid (HB.out.trans (b1.mono HB.out.size))
          clear b1
          generalize ((w3.alloc (.cells #[.int .i64 s0, .int .i64 s1, .int .i64 s2] 57)).alloc (.cells #[.string u, .int .i64 t0, .int .i64 t1, .int .i64 t2, .int .i64 s0, .int .i64 s1, .int .i64 s2] 181)) = w4 at *
          refine (withM u (EnV.mk A ss.length c s0 s1 s2 ss) HX.out (Nat.le_refl _) HXR.out (by omega)).mono ?_
          rintro e w5 ⟨p5, rfl, t5, b1⟩
          replace HI1 := Lib.hid (HI1.out.below b1 HI1.out.lt)
          replace HIC := Lib.hid (HIC.out.below b1 HIC.out.lt)
          replace HB := Lib.hid (HB.out.trans (b1.mono HB.out.size))
          have HX5 := Lib.hid (t5.far (i := 0) HI1.out (by decide) (.pointer p5))
          have HIC5 := Lib.hid (HIC.out.far (p := ⟨w.heap.size + 1, 0, none⟩) (by simp; omega) (.pointer p5))
          have HB5 := Lib.hid (HB.out.setCell (p := ⟨w.heap.size + 1, 0, none⟩) (Nat.le_succ _) (.pointer p5))
          have HI5 := Lib.hid (HI1.out.set 0 (.pointer p5) rfl)
          have l1 := HI1.out.lt
          have f1 := HI1.out.frozen 0
          have m1 := HI1.out.cell' (i := 0) rfl
          clear t5 b1 k1 k2 k3 l2 j0 l0 HX HIC
          go_wp2_with fail
          have e9 : w5.heap.size = (w5.setCell ⟨w.heap.size + 1, 0, none⟩ (.pointer p5)).heap.size := by simp
          rw [e9] at HX5
          clear e9 m1 f1 l1
          generalize w5.setCell ⟨w.heap.size + 1, 0, none⟩ (.pointer p5) = w6 at *
          have c6 := HI5.out.cell' (i := 0) rfl
          refine bodyPost_ret (v := .tuple #[M p5, .slice (some ⟨w3.heap.size + 1, 0, none⟩) 1 1]) (by simp [results, Tryz.results86, go_sem, c6]) rfl ?_
          rw [HE.out, HF.out]
          refine ⟨p5, _, _, rfl, ⟨_, HX5.out, ?_, ?_⟩, Lain.is HIC5.out rfl, HB5.out⟩
          · intro q hq
            rcases putK_mem lt hq with rfl | hq
            · exact ⟨rfl, HSO.out.now HB5.out⟩
            · exact (HIN.out q hq).keeps (Keeps.of_below HB5.out)
          · rw [mapV_put, HM.out]; rfl
    · have e1 : (s0 == t0) = true := by simpa using q0
      have e2 : (s1 == t1) = false := by simpa using q1
      have HE : Hid (tells u ss now b = [(u, (t0, t1, t2), (s0, s1, s2))]) := by show _ = _; rw [HEQ.out, if_neg (by intro h; injection h with h0 h; injection h with h1 h2; exact q1 h1)]
      by_cases qe : ss = []
      · have HF : Hid (become lt u ss now b = outK u b) := by show _ = _; rw [HBE.out, if_pos qe]
        have e4 : ((ss.length : Int) == 0) = true := by subst qe; rfl
        clear qe
        clear q0 q1
        go_wp2_with fail
        have b1 := ((Below.refl w3.heap.size w3).alloc (Nat.le_refl _) (.cells #[.int .i64 s0, .int .i64 s1, .int .i64 s2] 57)).alloc (by simp) (.cells #[.string u, .int .i64 t0, .int .i64 t1, .int .i64 t2, .int .i64 s0, .int .i64 s1, .int .i64 s2] 181)
        have HIC := Lib.hid (Is.new (w3.alloc (.cells #[.int .i64 s0, .int .i64 s1, .int .i64 s2] 57)) 181 #[.string u, .int .i64 t0, .int .i64 t1, .int .i64 t2, .int .i64 s0, .int .i64 s1, .int .i64 s2] (g := w3.heap.size + 1) (by simp))
        have hg : w.heap.size + 1 < w3.heap.size := HI1.out.lt
        replace HI1 := Lib.hid (HI1.out.below b1 HI1.out.lt)
        replace HX := Lib.hid ((HX.out.under b1).wide b1.size)
        replace HB := Lib.hid (HB.out.trans (b1.mono HB.out.size))
        clear b1
        generalize ((w3.alloc (.cells #[.int .i64 s0, .int .i64 s1, .int .i64 s2] 57)).alloc (.cells #[.string u, .int .i64 t0, .int .i64 t1, .int .i64 t2, .int .i64 s0, .int .i64 s1, .int .i64 s2] 181)) = w4 at *
        refine (withoutM u HX.out (Nat.le_refl _) HXR.out (by omega)).mono ?_
        rintro e w5 ⟨p5, rfl, t5, b1⟩
        replace HI1 := Lib.hid (HI1.out.below b1 HI1.out.lt)
        replace HIC := Lib.hid (HIC.out.below b1 HIC.out.lt)
        replace HB := Lib.hid (HB.out.trans (b1.mono HB.out.size))
        have HX5 := Lib.hid (t5.far (i := 0) HI1.out (by decide) (.pointer p5))
        have HIC5 := Lib.hid (HIC.out.far (p := ⟨w.heap.size + 1, 0, none⟩) (by simp; omega) (.pointer p5))
        have HB5 := Lib.hid (HB.out.setCell (p := ⟨w.heap.size + 1, 0, none⟩) (Nat.le_succ _) (.pointer p5))
        have HI5 := Lib.hid (HI1.out.set 0 (.pointer p5) rfl)
        have l1 := HI1.out.lt
        have f1 := HI1.out.frozen 0
        have m1 := HI1.out.cell' (i := 0) rfl
        clear t5 b1 k1 k2 k3 l2 j0 l0 HX HIC
        go_wp2_with fail
        have e9 : w5.heap.size = (w5.setCell ⟨w.heap.size + 1, 0, none⟩ (.pointer p5)).heap.size := by simp
        rw [e9] at HX5
        clear e9 m1 f1 l1
        generalize w5.setCell ⟨w.heap.size + 1, 0, none⟩ (.pointer p5) = w6 at *
        have c6 := HI5.out.cell' (i := 0) rfl
        refine bodyPost_ret (v := .tuple #[M p5, .slice (some ⟨w3.heap.size + 1, 0, none⟩) 1 1]) (by simp [results, Tryz.results86, go_sem, c6]) rfl ?_
        rw [HE.out, HF.out]
        refine ⟨p5, _, _, rfl, ⟨_, HX5.out, ?_, ?_⟩, Lain.is HIC5.out rfl, HB5.out⟩
        · exact fun q hq => (HIN.out q (List.mem_filter.1 hq).1).keeps (Keeps.of_below HB5.out)
        · rw [mapV_out, HM.out]
      · have HF : Hid (become lt u ss now b = putK lt u (ss, s0, s1, s2) b) := by show _ = _; rw [HBE.out, if_neg qe]
        have e4 : ((ss.length : Int) == 0) = false := by have := List.length_pos_iff.2 qe; simp; omega
        clear q0 q1
        go_wp2_with fail
        have b1 := ((Below.refl w3.heap.size w3).alloc (Nat.le_refl _) (.cells #[.int .i64 s0, .int .i64 s1, .int .i64 s2] 57)).alloc (by simp) (.cells #[.string u, .int .i64 t0, .int .i64 t1, .int .i64 t2, .int .i64 s0, .int .i64 s1, .int .i64 s2] 181)
        have HIC := Lib.hid (Is.new (w3.alloc (.cells #[.int .i64 s0, .int .i64 s1, .int .i64 s2] 57)) 181 #[.string u, .int .i64 t0, .int .i64 t1, .int .i64 t2, .int .i64 s0, .int .i64 s1, .int .i64 s2] (g := w3.heap.size + 1) (by simp))
        have hg : w.heap.size + 1 < w3.heap.size := HI1.out.lt
        replace HI1 := Lib.hid (HI1.out.below b1 HI1.out.lt)
        replace HX := Lib.hid ((HX.out.under b1).wide b1.size)
        replace HB := Lib.hid (HB.out.trans (b1.mono HB.out.size))
        clear b1
        generalize ((w3.alloc (.cells #[.int .i64 s0, .int .i64 s1, .int .i64 s2] 57)).alloc (.cells #[.string u, .int .i64 t0, .int .i64 t1, .int .i64 t2, .int .i64 s0, .int .i64 s1, .int .i64 s2] 181)) = w4 at *
        refine (withM u (EnV.mk A ss.length c s0 s1 s2 ss) HX.out (Nat.le_refl _) HXR.out (by omega)).mono ?_
        rintro e w5 ⟨p5, rfl, t5, b1⟩
        replace HI1 := Lib.hid (HI1.out.below b1 HI1.out.lt)
        replace HIC := Lib.hid (HIC.out.below b1 HIC.out.lt)
        replace HB := Lib.hid (HB.out.trans (b1.mono HB.out.size))
        have HX5 := Lib.hid (t5.far (i := 0) HI1.out (by decide) (.pointer p5))
        have HIC5 := Lib.hid (HIC.out.far (p := ⟨w.heap.size + 1, 0, none⟩) (by simp; omega) (.pointer p5))
        have HB5 := Lib.hid (HB.out.setCell (p := ⟨w.heap.size + 1, 0, none⟩) (Nat.le_succ _) (.pointer p5))
        have HI5 := Lib.hid (HI1.out.set 0 (.pointer p5) rfl)
        have l1 := HI1.out.lt
        have f1 := HI1.out.frozen 0
        have m1 := HI1.out.cell' (i := 0) rfl
        clear t5 b1 k1 k2 k3 l2 j0 l0 HX HIC
        go_wp2_with fail
        have e9 : w5.heap.size = (w5.setCell ⟨w.heap.size + 1, 0, none⟩ (.pointer p5)).heap.size := by simp
        rw [e9] at HX5
        clear e9 m1 f1 l1
        generalize w5.setCell ⟨w.heap.size + 1, 0, none⟩ (.pointer p5) = w6 at *
        have c6 := HI5.out.cell' (i := 0) rfl
        refine bodyPost_ret (v := .tuple #[M p5, .slice (some ⟨w3.heap.size + 1, 0, none⟩) 1 1]) (by simp [results, Tryz.results86, go_sem, c6]) rfl ?_
        rw [HE.out, HF.out]
        refine ⟨p5, _, _, rfl, ⟨_, HX5.out, ?_, ?_⟩, Lain.is HIC5.out rfl, HB5.out⟩
        · intro q hq
          rcases putK_mem lt hq with rfl | hq
          · exact ⟨rfl, HSO.out.now HB5.out⟩
          · exact (HIN.out q hq).keeps (Keeps.of_below HB5.out)
        · rw [mapV_put, HM.out]; rfl
  · have e1 : (s0 == t0) = false := by simpa using q0
    have HE : Hid (tells u ss now b = [(u, (t0, t1, t2), (s0, s1, s2))]) := by show _ = _; rw [HEQ.out, if_neg (by intro h; injection h with h0 h; injection h with h1 h2; exact q0 h0)]
    by_cases qe : ss = []
    · have HF : Hid (become lt u ss now b = outK u b) := by show _ = _; rw [HBE.out, if_pos qe]
      have e4 : ((ss.length : Int) == 0) = true := by subst qe; rfl
      clear qe
      clear q0
      go_wp2_with fail
      have b1 := ((Below.refl w3.heap.size w3).alloc (Nat.le_refl _) (.cells #[.int .i64 s0, .int .i64 s1, .int .i64 s2] 57)).alloc (by simp) (.cells #[.string u, .int .i64 t0, .int .i64 t1, .int .i64 t2, .int .i64 s0, .int .i64 s1, .int .i64 s2] 181)
      have HIC := Lib.hid (Is.new (w3.alloc (.cells #[.int .i64 s0, .int .i64 s1, .int .i64 s2] 57)) 181 #[.string u, .int .i64 t0, .int .i64 t1, .int .i64 t2, .int .i64 s0, .int .i64 s1, .int .i64 s2] (g := w3.heap.size + 1) (by simp))
      have hg : w.heap.size + 1 < w3.heap.size := HI1.out.lt
      replace HI1 := Lib.hid (HI1.out.below b1 HI1.out.lt)
      replace HX := Lib.hid ((HX.out.under b1).wide b1.size)
      replace HB := Lib.hid (HB.out.trans (b1.mono HB.out.size))
      clear b1
      generalize ((w3.alloc (.cells #[.int .i64 s0, .int .i64 s1, .int .i64 s2] 57)).alloc (.cells #[.string u, .int .i64 t0, .int .i64 t1, .int .i64 t2, .int .i64 s0, .int .i64 s1, .int .i64 s2] 181)) = w4 at *
      refine (withoutM u HX.out (Nat.le_refl _) HXR.out (by omega)).mono ?_
      rintro e w5 ⟨p5, rfl, t5, b1⟩
      replace HI1 := Lib.hid (HI1.out.below b1 HI1.out.lt)
      replace HIC := Lib.hid (HIC.out.below b1 HIC.out.lt)
      replace HB := Lib.hid (HB.out.trans (b1.mono HB.out.size))
      have HX5 := Lib.hid (t5.far (i := 0) HI1.out (by decide) (.pointer p5))
      have HIC5 := Lib.hid (HIC.out.far (p := ⟨w.heap.size + 1, 0, none⟩) (by simp; omega) (.pointer p5))
      have HB5 := Lib.hid (HB.out.setCell (p := ⟨w.heap.size + 1, 0, none⟩) (Nat.le_succ _) (.pointer p5))
      have HI5 := Lib.hid (HI1.out.set 0 (.pointer p5) rfl)
      have l1 := HI1.out.lt
      have f1 := HI1.out.frozen 0
      have m1 := HI1.out.cell' (i := 0) rfl
      clear t5 b1 k1 k2 k3 l2 j0 l0 HX HIC
      go_wp2_with fail
      have e9 : w5.heap.size = (w5.setCell ⟨w.heap.size + 1, 0, none⟩ (.pointer p5)).heap.size := by simp
      rw [e9] at HX5
      clear e9 m1 f1 l1
      generalize w5.setCell ⟨w.heap.size + 1, 0, none⟩ (.pointer p5) = w6 at *
      have c6 := HI5.out.cell' (i := 0) rfl
      refine bodyPost_ret (v := .tuple #[M p5, .slice (some ⟨w3.heap.size + 1, 0, none⟩) 1 1]) (by simp [results, Tryz.results86, go_sem, c6]) rfl ?_
      rw [HE.out, HF.out]
      refine ⟨p5, _, _, rfl, ⟨_, HX5.out, ?_, ?_⟩, Lain.is HIC5.out rfl, HB5.out⟩
      · exact fun q hq => (HIN.out q (List.mem_filter.1 hq).1).keeps (Keeps.of_below HB5.out)
      · rw [mapV_out, HM.out]
    · have HF : Hid (become lt u ss now b = putK lt u (ss, s0, s1, s2) b) := by show _ = _; rw [HBE.out, if_neg qe]
      have e4 : ((ss.length : Int) == 0) = false := by have := List.length_pos_iff.2 qe; simp; omega
      clear q0
      go_wp2_with fail
      have b1 := ((Below.refl w3.heap.size w3).alloc (Nat.le_refl _) (.cells #[.int .i64 s0, .int .i64 s1, .int .i64 s2] 57)).alloc (by simp) (.cells #[.string u, .int .i64 t0, .int .i64 t1, .int .i64 t2, .int .i64 s0, .int .i64 s1, .int .i64 s2] 181)
      have HIC := Lib.hid (Is.new (w3.alloc (.cells #[.int .i64 s0, .int .i64 s1, .int .i64 s2] 57)) 181 #[.string u, .int .i64 t0, .int .i64 t1, .int .i64 t2, .int .i64 s0, .int .i64 s1, .int .i64 s2] (g := w3.heap.size + 1) (by simp))
      have hg : w.heap.size + 1 < w3.heap.size := HI1.out.lt
      replace HI1 := Lib.hid (HI1.out.below b1 HI1.out.lt)
      replace HX := Lib.hid ((HX.out.under b1).wide b1.size)
      replace HB := Lib.hid (HB.out.trans (b1.mono HB.out.size))
      clear b1
      generalize ((w3.alloc (.cells #[.int .i64 s0, .int .i64 s1, .int .i64 s2] 57)).alloc (.cells #[.string u, .int .i64 t0, .int .i64 t1, .int .i64 t2, .int .i64 s0, .int .i64 s1, .int .i64 s2] 181)) = w4 at *
      refine (withM u (EnV.mk A ss.length c s0 s1 s2 ss) HX.out (Nat.le_refl _) HXR.out (by omega)).mono ?_
      rintro e w5 ⟨p5, rfl, t5, b1⟩
      replace HI1 := Lib.hid (HI1.out.below b1 HI1.out.lt)
      replace HIC := Lib.hid (HIC.out.below b1 HIC.out.lt)
      replace HB := Lib.hid (HB.out.trans (b1.mono HB.out.size))
      have HX5 := Lib.hid (t5.far (i := 0) HI1.out (by decide) (.pointer p5))
      have HIC5 := Lib.hid (HIC.out.far (p := ⟨w.heap.size + 1, 0, none⟩) (by simp; omega) (.pointer p5))
      have HB5 := Lib.hid (HB.out.setCell (p := ⟨w.heap.size + 1, 0, none⟩) (Nat.le_succ _) (.pointer p5))
      have HI5 := Lib.hid (HI1.out.set 0 (.pointer p5) rfl)
      have l1 := HI1.out.lt
      have f1 := HI1.out.frozen 0
      have m1 := HI1.out.cell' (i := 0) rfl
      clear t5 b1 k1 k2 k3 l2 j0 l0 HX HIC
      go_wp2_with fail
      have e9 : w5.heap.size = (w5.setCell ⟨w.heap.size + 1, 0, none⟩ (.pointer p5)).heap.size := by simp
      rw [e9] at HX5
      clear e9 m1 f1 l1
      generalize w5.setCell ⟨w.heap.size + 1, 0, none⟩ (.pointer p5) = w6 at *
      have c6 := HI5.out.cell' (i := 0) rfl
      refine bodyPost_ret (v := .tuple #[M p5, .slice (some ⟨w3.heap.size + 1, 0, none⟩) 1 1]) (by simp [results, Tryz.results86, go_sem, c6]) rfl ?_
      rw [HE.out, HF.out]
      refine ⟨p5, _, _, rfl, ⟨_, HX5.out, ?_, ?_⟩, Lain.is HIC5.out rfl, HB5.out⟩
      · intro q hq
        rcases putK_mem lt hq with rfl | hq
        · exact ⟨rfl, HSO.out.now HB5.out⟩
        · exact (HIN.out q hq).keeps (Keeps.of_below HB5.out)
      · rw [mapV_put, HM.out]; rfl

end Bk
end Go.Proofs.YtdkjcheannehhaaGreat
/-
  What an api.Op is in memory, and an act of layer 8's statements (Sweep, Op, By): their cells, out of the reading of an argument. General over programs.
-/
namespace Go.Law
open Go.RowKit Go.ChangeShapes Go.WideShapes Go.ChangeAt
/-- an op: kind, user, id, status, prio, ttl, users (a slice, as it is) -/
structure OpV where
  kind : Int
  user : ByteArray
  id : Int
  st : Int
  pr : Int
  ttl : Int
  users : Value
def cellsO (q : OpV) : List Value := [.int .i64 q.kind, .string q.user, .int .i64 q.id, .int .i64 q.st, .int .i64 q.pr, .int .u64 q.ttl, q.users]
structure OpV.Good (q : OpV) : Prop where
  kind : (Lit.int .i64 q.kind).wf = true
  user : q.user.size ≤ maxLen
  id : (Lit.int .i64 q.id).wf = true
  st : (Lit.int .i64 q.st).wf = true
  pr : (Lit.int .i64 q.pr).wf = true
  ttl : (Lit.int .u64 q.ttl).wf = true
  users : ∃ A n c, q.users = .slice A n c
section
variable {H : Type} {enc : TypeId × Value → H} {P : Program} {W : World} {base : Nat} {sp : Nat → Bool} {hd : Bool} {fuel : Nat} {cs : List Value} {x : DataW H × List MemPlace}
theorem dec_op {o ts : TypeId} {g0 g1 g2 g3 g4 g5 g6 : Field} (ho : P.underlying o = some (.struct #[g0, g1, g2, g3, g4, g5, g6])) (co : P.cellsOf o = 7)
    (o0 : g0.offset = 0) (o1 : g1.offset = 1) (o2 : g2.offset = 2) (o3 : g3.offset = 3) (o4 : g4.offset = 4) (o5 : g5.offset = 5) (o6 : g6.offset = 6)
    (c0 : P.cellsOf g0.type = 1) (c1 : P.cellsOf g1.type = 1) (c2 : P.cellsOf g2.type = 1) (c3 : P.cellsOf g3.type = 1) (c4 : P.cellsOf g4.type = 1) (c5 : P.cellsOf g5.type = 1) (c6 : P.cellsOf g6.type = 1)
    (u0 : P.underlying g0.type = some (.int .i64)) (u1 : P.underlying g1.type = some .string) (u2 : P.underlying g2.type = some (.int .i64)) (u3 : P.underlying g3.type = some (.int .i64)) (u4 : P.underlying g4.type = some (.int .i64)) (u5 : P.underlying g5.type = some (.int .u64)) (u6 : P.underlying g6.type = some (.slice ts))
    (h : DataW.trod enc P W base sp hd fuel o cs = some x) : ∃ q : OpV, cs = cellsO q ∧ q.Good := by
  obtain ⟨xs, n, _, _, hl, hxl, hf⟩ := DataW.trod_struct ho h
  rw [co] at hl
  match cs, hl, xs, hxl with
  | [v0, v1, v2, v3, v4, v5, v6], _, [y0, y1, y2, y3, y4, y5, y6], _ =>
    have k0 := hf 0 g0 rfl
    have k1 := hf 1 g1 rfl
    have k2 := hf 2 g2 rfl
    have k3 := hf 3 g3 rfl
    have k4 := hf 4 g4 rfl
    have k5 := hf 5 g5 rfl
    have k6 := hf 6 g6 rfl
    simp [o0, o1, o2, o3, o4, o5, o6, c0, c1, c2, c3, c4, c5, c6] at k0 k1 k2 k3 k4 k5 k6
    obtain ⟨a0, e0, _, w0⟩ := DataW.trod_int u0 k0
    obtain ⟨a1, e1, _, w1⟩ := DataW.trod_string u1 k1
    obtain ⟨a2, e2, _, w2⟩ := DataW.trod_int u2 k2
    obtain ⟨a3, e3, _, w3⟩ := DataW.trod_int u3 k3
    obtain ⟨a4, e4, _, w4⟩ := DataW.trod_int u4 k4
    obtain ⟨a5, e5, _, w5⟩ := DataW.trod_int u5 k5
    have w6 : ∃ A n c, v6 = .slice A n c := by
      rcases Go.Deep.open_slice u6 k6 with ⟨hcs, _⟩ | ⟨_, _, _, _, _, _, _, hcs, _⟩
      · simp at hcs; exact ⟨_, _, _, hcs⟩
      · simp at hcs; exact ⟨_, _, _, hcs⟩
    simp at e0 e1 e2 e3 e4 e5
    subst e0 e1 e2 e3 e4 e5
    exact ⟨⟨a0, a1, a2, a3, a4, a5, v6⟩, rfl, w0, w1, w2, w3, w4, w5, w6⟩
/-- an act: whether it is a sweep; else an op; behind so much time -/
structure ActV where
  sweep : Bool
  op : OpV
  by_ : Int
def cellsA (q : ActV) : List Value := .bool q.sweep :: (cellsO q.op ++ [.int .u64 q.by_])
theorem cellsA_length (q : ActV) : (cellsA q).length = 9 := rfl
structure ActV.Good (q : ActV) : Prop where
  op : q.op.Good
  by_ : (Lit.int .u64 q.by_).wf = true
theorem dec_act {e : TypeId} {f0 f1 f2 : Field} (he : P.underlying e = some (.struct #[f0, f1, f2])) (ce : P.cellsOf e = 9) (o0 : f0.offset = 0) (o1 : f1.offset = 1) (o2 : f2.offset = 8)
    (c0 : P.cellsOf f0.type = 1) (c1 : P.cellsOf f1.type = 7) (c2 : P.cellsOf f2.type = 1) (u0 : P.underlying f0.type = some .bool) (u2 : P.underlying f2.type = some (.int .u64))
    (dop : ∀ fuel cs x, DataW.trod enc P W base sp hd fuel f1.type cs = some x → ∃ q : OpV, cs = cellsO q ∧ q.Good)
    (h : DataW.trod enc P W base sp hd fuel e cs = some x) : ∃ q : ActV, cs = cellsA q ∧ q.Good := by
  obtain ⟨xs, n, _, _, hl, hxl, hf⟩ := DataW.trod_struct he h
  rw [ce] at hl
  match cs, hl, xs, hxl with
  | [v0, v1, v2, v3, v4, v5, v6, v7, v8], _, [y0, y1, y2], _ =>
    have k0 := hf 0 f0 rfl
    have k1 := hf 1 f1 rfl
    have k2 := hf 2 f2 rfl
    simp [o0, o1, o2, c0, c1, c2] at k0 k1 k2
    obtain ⟨a0, e0, _⟩ := DataW.trod_bool u0 k0
    obtain ⟨q, e1, g1⟩ := dop _ _ _ k1
    obtain ⟨a2, e2, _, w2⟩ := DataW.trod_int u2 k2
    simp at e0 e2
    subst e0 e2
    exact ⟨⟨a0, q, a2⟩, by unfold cellsA; rw [← e1]; rfl, g1, w2⟩
end
end Go.Law
