/-
  Two replies that are alike (layer 10): the reference's Same answers true.
-/
import Derived.Test.YtohdlnefgieenaaGreatJ24
import Derived.Test.YtohdlnefgieenaaGreatJ25
namespace Go.Proofs.YtohdlnefgieenaaGreat
open Go.RowKit Go.Shelf
attribute [local go_sem] Oper.semAt_some
namespace Mod
open Go.Law Feed Bk
/-- a reply, as a value -/
abbrev Rep.val (r : Rep) (A : Option Addr) (c : Nat) (A2 : Option Addr) (c2 : Nat) : Value := .agg #[.int .i64 r.err, .slice A r.vals.length c, .slice A2 r.evs.length c2, .bool r.lost]
set_option maxRecDepth 100000 in
set_option maxHeartbeats 2000000 in
theorem refSame10 (r : Rep) (A B A2 B2 : Option Addr) (c d c2 d2 : Nat) (w : World) (hv : Seq w 0 w.heap.size A (flatPr r.vals)) (hv' : Seq w 0 w.heap.size B (flatPr r.vals)) (he : Seq w 0 w.heap.size A2 (flatE r.evs)) (he' : Seq w 0 w.heap.size B2 (flatE r.evs)) (hl : r.vals.length ≤ 1000) (hl2 : r.evs.length ≤ 1000) :
    Calls Tryz.prog 14 #[r.val A c A2 c2, r.val B d B2 d2] w fun e w' => e = .returned (.bool true) ∧ Below w.heap.size w w' := by
  obtain ⟨er, vs, es, lo⟩ := r
  simp only at hv hv' he he' hl hl2
  have b1 := ((Below.refl w.heap.size w).alloc (Nat.le_refl _) (.cells #[.int .i64 er, .slice A vs.length c, .slice A2 es.length c2, .bool lo] 43)).alloc (by simp) (.cells #[.int .i64 er, .slice B vs.length d, .slice B2 es.length d2, .bool lo] 43)
  have HX : Hid (Is ((w.alloc (.cells #[.int .i64 er, .slice A vs.length c, .slice A2 es.length c2, .bool lo] 43)).alloc (.cells #[.int .i64 er, .slice B vs.length d, .slice B2 es.length d2, .bool lo] 43)) w.heap.size 43 #[.int .i64 er, .slice A vs.length c, .slice A2 es.length c2, .bool lo]) := (Is.new w _ _ rfl).alloc _
  have HY : Hid (Is ((w.alloc (.cells #[.int .i64 er, .slice A vs.length c, .slice A2 es.length c2, .bool lo] 43)).alloc (.cells #[.int .i64 er, .slice B vs.length d, .slice B2 es.length d2, .bool lo] 43)) (w.heap.size + 1) 43 #[.int .i64 er, .slice B vs.length d, .slice B2 es.length d2, .bool lo]) := Is.new _ _ _ (by simp)
  have HV := Lib.hid (hv.below b1)
  have HW := Lib.hid (hv'.below b1)
  have HE := Lib.hid ((he.below b1).more b1.size)
  have HF := Lib.hid ((he'.below b1).more b1.size)
  have HB := Lib.hid b1
  clear hv hv' he he' b1
  show Calls _ _ #[.agg #[.int .i64 er, .slice A vs.length c, .slice A2 es.length c2, .bool lo], .agg #[.int .i64 er, .slice B vs.length d, .slice B2 es.length d2, .bool lo]] _ _
  go_enter Tryz.func14, Tryz.ntmps14
  go_wp2_with fail
  generalize ((w.alloc (.cells #[.int .i64 er, .slice A vs.length c, .slice A2 es.length c2, .bool lo] 43)).alloc (.cells #[.int .i64 er, .slice B vs.length d, .slice B2 es.length d2, .bool lo] 43)) = w1 at *
  refine (refSame es A2 B2 c2 d2 w1 HE.out HF.out hl2).mono ?_
  rintro e w2 ⟨rfl, b2⟩
  have HX2 := Lib.hid (HX.out.below b2 HX.out.lt)
  have HY2 := Lib.hid (HY.out.below b2 HY.out.lt)
  have sz1 := HB.out.size
  have HB2 := Lib.hid (HB.out.trans (b2.mono sz1))
  have HV2 := Lib.hid (HV.out.below (b2.mono sz1))
  have HW2 := Lib.hid (HW.out.below (b2.mono sz1))
  have sz2 := b2.size
  clear b2 HX HY HB HV HW HE HF
  go_wp2_with fail
  go_loopw [5] (fun vi wr => ∃ j : Nat, j ≤ vs.length ∧ vi = .int .i64 j ∧ Drawn w2 wr) (fun vi _ => vs.length - (intOf vi).toNat)
  case atStart => exact ⟨0, Nat.zero_le _, rfl, Drawn.refl w2⟩
  case round =>
    obtain ⟨j, hj, rfl, q, rfl⟩ := hrel
    have x1 : w2.cell? ⟨w.heap.size, 1, none⟩ = some (.slice A vs.length c) := HX2.out.cell' rfl
    have y1 : w2.cell? ⟨w.heap.size + 1, 1, none⟩ = some (.slice B vs.length d) := HY2.out.cell' rfl
    have lx := HX2.out.lt
    have ly := HY2.out.lt
    by_cases hlt : j < vs.length
    · have d1 : decide ((j : Int) < (vs.length : Int)) = true := by simp; omega
      obtain ⟨b, o, hA, _, hb, hc⟩ := Seq.row (cells := cellsPr) (fun _ => rfl) (by decide : 0 < 3) HV2.out hlt
      obtain ⟨b', o', hB, _, hb', hc'⟩ := Seq.row (cells := cellsPr) (fun _ => rfl) (by decide : 0 < 3) HW2.out hlt
      subst hA hB
      generalize vs[j] = p at hc hc'
      obtain ⟨p0, p1, p2⟩ := p
      have c0 : w2.cell? ⟨b, o + j * 3, none⟩ = some (.int .i64 p0) := by simpa using hc 0 _ rfl
      have c1 : w2.cell? ⟨b, o + j * 3 + 1, none⟩ = some (.int .i64 p1) := hc 1 _ rfl
      have c2 : w2.cell? ⟨b, o + j * 3 + 2, none⟩ = some (.int .i64 p2) := hc 2 _ rfl
      have e0 : w2.cell? ⟨b', o' + j * 3, none⟩ = some (.int .i64 p0) := by simpa using hc' 0 _ rfl
      have e1 : w2.cell? ⟨b', o' + j * 3 + 1, none⟩ = some (.int .i64 p1) := hc' 1 _ rfl
      have e2 : w2.cell? ⟨b', o' + j * 3 + 2, none⟩ = some (.int .i64 p2) := hc' 2 _ rfl
      have lb : b < w2.heap.size := by omega
      have lb' : b' < w2.heap.size := by omega
      clear hc hc'
      go_wp2_with fail
      go_quiet (fail)
      go_wp2_with fail
      go_roundw
      case rel => exact ⟨j + 1, by omega, by go_num, ⟨_, rfl⟩⟩
      case measure => simp [intOf]; omega
    · have d1 : decide ((j : Int) < (vs.length : Int)) = false := by simp; omega
      go_wp2_with fail
      go_ret
      exact ⟨rfl, Law.below_drewN HB2.out _⟩
end Mod
end Go.Proofs.YtohdlnefgieenaaGreat
