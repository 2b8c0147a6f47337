/-
  A Batch tells of each of its users what a Query of it does, then, in order. For all lists of acts and users and every client's number, no condition.
-/
import Derived.Test.YtombdjkfbjpipaaGreatMod22
namespace Go.Proofs.YtombdjkfbjpipaaGreat
open Go.RowKit Go.ChangeShapes Go.WideShapes Go.ChangeAt
namespace modelBatch
open Feed Go.Law Bk Go.Proofs.YtombdjkfbjpipaaGreat.Mod
set_option maxRecDepth 100000 in
set_option maxHeartbeats 4000000 in
theorem walk (l : List AcM) (A : Option Addr) (c : Nat) (us : List ByteArray) (Ax : Option Addr) (cx : Nat) (who : Nat) (w : World) (hs : Seq w 0 w.heap.size A (l.flatMap cellsM)) (hl : l.length ≤ maxLen) (hq : ∀ q ∈ l, q.Good w)
    (hx : Seq w 0 w.heap.size Ax (us.map .string)) (hxl : us.length ≤ maxLen) (hxu : ∀ u ∈ us, u.size ≤ maxLen) (hw : who ≤ 255) :
    Calls Tryz.prog 8 #[.slice A l.length c, .slice Ax us.length cx, .int .u8 (who : Int)] w fun e w' => e = .returned (.bool true) ∧ Below w.heap.size w w' := by
  have HX := Lib.hid hx
  have HXU := Lib.hid hxu
  have HXL := Lib.hid hxl
  unfold maxLen at hxl
  obtain ⟨k, hk⟩ : ∃ k : Nat, who % 8 = k := ⟨_, rfl⟩
  have k1 : (who : Int) % 8 = (k : Int) := by omega
  have k2 : k < 8 := by omega
  have K1 := Lib.hid k1
  clear hx hxu hk k1
  by_cases h8 : us.length ≤ 8
  · have d8 : decide ((8 : Int) < (us.length : Int)) = false := by simp; omega
    have HS := Lib.hid hs
    have HQ := Lib.hid hq
    have HL := Lib.hid hl
    clear hs hq hl
    cases hlong : longM l with
    | true =>
      go_enter Tryz.func8, Tryz.ntmps8
      go_wp2_with fail
      refine (awake w).mono ?_
      rintro e w1 ⟨rfl, b1⟩
      have HB1 := Lib.hid b1
      clear b1
      go_wp2_with fail
      refine (long l A c w1 ((HS.out.below HB1.out).more HB1.out.size) HL.out (fun q hx => (HQ.out q hx).op.in_.below HB1.out) hlong).mono ?_
      rintro e w2 ⟨rfl, b2⟩
      have HB2 := Lib.hid (HB1.out.trans (b2.mono HB1.out.size))
      clear b2
      go_wp2_with fail
      refine (awake w2).mono ?_
      rintro e w3 ⟨rfl, b3⟩
      have HB3 := Lib.hid (HB2.out.trans (b3.mono HB2.out.size))
      clear b3
      go_wp2_with fail
      go_ret
      exact ⟨rfl, HB3.out⟩
    | false =>
      obtain ⟨hl1, hsh⟩ := longM_no hlong
      go_enter Tryz.func8, Tryz.ntmps8
      go_wp2_with fail
      refine (awake w).mono ?_
      rintro e w1 ⟨rfl, b1⟩
      have HB1 := Lib.hid b1
      clear b1
      go_wp2_with fail
      refine (long l A c w1 ((HS.out.below HB1.out).more HB1.out.size) HL.out (fun q hx => (HQ.out q hx).op.in_.below HB1.out) hlong).mono ?_
      rintro e w2 ⟨rfl, b2⟩
      have HB2 := Lib.hid (HB1.out.trans (b2.mono HB1.out.size))
      clear b2 HB1
      go_wp2_with fail
      refine (small_ w2).mono ?_
      rintro e w3 ⟨rfl, b3⟩
      have HB3 := Lib.hid (HB2.out.trans (b3.mono HB2.out.size))
      clear b3 HB2
      go_wp2_with fail
      refine (new_yes small w3 (base := w.heap.size) HB3.out.size small_right).mono ?_
      rintro e w4 ⟨m, S, rfl, hT, hS, hB⟩
      have H : Hid (Live w w4 w.heap.size S m (Mo.new small)) := ⟨hT, HB3.out.trans (hB.mono HB3.out.size), fun x hx => Nat.le_trans HB3.out.size (hS x hx)⟩
      clear hT hS hB HB3
      go_wp2_with fail
      go_loopw [9] (fun vi wr => ∃ (j : Nat) (S : Nat → Prop), j ≤ l.length ∧ vi = .int .i64 j ∧ Live w wr w.heap.size S m ((Mo.new small).run (l.take j))) (fun vi _ => l.length - (intOf vi).toNat)
      case atStart => exact ⟨0, S, Nat.zero_le _, rfl, H.out⟩
      case round =>
        clear H
        obtain ⟨j, S, hj, rfl, hL⟩ := hrel
        have H := Lib.hid hL
        clear hL
        by_cases hlt : j < l.length
        · have d1 : decide ((j : Int) < (l.length : Int)) = true := by simp; omega
          have hB := H.out.bel
          obtain ⟨b, off, rfl, _, hb, c0, c1, c2, c3, c4, c5, c6, c7, c8, c9⟩ := (HS.out.below hB).acM hlt
          have HM := Lib.hid (List.getElem_mem hlt)
          have HG := Lib.hid (HQ.out _ HM.out)
          have HIN := Lib.hid (HG.out.op.in_.below hB)
          have lb : b < wr.heap.size := Nat.lt_of_lt_of_le hb hB.size
          clear hB
          have HR := Lib.hid (run_take (Mo.new small) hlt)
          have HO := Lib.hid (run_ok_take new_small_ok (fun q hx => bounds_u64 (HQ.out q hx).by_) hl1 j)
          generalize l[j] = q at *
          obtain ⟨dI, qw, ⟨kind, user0, id, st, pr, ttl, Au, cu, us0⟩, by_⟩ := q
          obtain ⟨d, hd⟩ := Int.eq_ofNat_of_zero_le (bounds_u8 HG.out.do_).1
          simp only at hd
          subst hd
          have hd255 := (bounds_u8 HG.out.do_).2
          have hby := bounds_u64 HG.out.by_
          simp only at c0 c1 c2 c3 c4 c5 c6 c7 c8 c9 hd255 hby
          go_wp2_with fail
          refine (befalls ⟨(d : Int), qw, ⟨kind, user0, id, st, pr, ttl, Au, cu, us0⟩, by_⟩ H.out.tab HO.out (by omega) H.out.bel.size HIN.out ⟨Int.natCast_nonneg _, hd255⟩ hby).mono ?_
          rintro e w6 ⟨A1, c1', A2, c2', rfl, _, _, S', hT, hG⟩
          have H6 := Lib.hid (H.out.gone hT hG)
          clear hT hG H
          go_wp2_with fail
          go_roundw
          case rel => exact ⟨j + 1, S', by omega, by go_num, by rw [HR.out]; exact H6.out⟩
          case measure => simp [intOf]; omega
        · have d1 : decide ((j : Int) < (l.length : Int)) = false := by simp; omega
          have e1 : l.take j = l := List.take_of_length_le (by omega)
          rw [e1] at H
          have HO : Hid (((Mo.new small).run l).Ok 120) := (run_ok new_small_ok (fun q hx => bounds_u64 (HQ.out q hx).by_)).more (by omega)
          go_wp2_with fail
          have HB0 := Lib.hid (Is.new wr 37 #[.int .i64 5, .string ⟨#[]⟩, .int .i64 0, .int .i64 0, .int .i64 0, .int .u64 0, .slice Ax us.length cx] rfl)
          have bx := (Below.refl wr.heap.size wr).alloc (Nat.le_refl _) (.cells #[.int .i64 5, .string ⟨#[]⟩, .int .i64 0, .int .i64 0, .int .i64 0, .int .u64 0, .slice Ax us.length cx] 37)
          have H1 := Lib.hid (H.out.below bx)
          generalize wr.alloc (.cells #[.int .i64 5, .string ⟨#[]⟩, .int .i64 0, .int .i64 0, .int .i64 0, .int .u64 0, .slice Ax us.length cx] 37) = w1 at *
          clear bx
          have IN1 : Hid (OpW.In ⟨5, ⟨#[]⟩, 0, 0, 0, 0, Ax, cx, us⟩ w1) := ⟨(HX.out.below H1.out.bel).more H1.out.bel.size, HXL.out, HXU.out, by show (⟨#[]⟩ : ByteArray).size ≤ maxLen; decide, by show (0 : Int) ≤ 0 ∧ (0 : Int) ≤ 18446744073709551615; decide⟩
          skip
          cases hsh : shortB ⟨5, ⟨#[]⟩, 0, 0, 0, 0, Ax, cx, us⟩ with
          | false =>
            refine (short ⟨5, ⟨#[]⟩, 0, 0, 0, 0, Ax, cx, us⟩ IN1.out hsh).mono ?_
            rintro e w2 ⟨rfl, b2⟩
            have HB2 := Lib.hid (HB0.out.below b2 HB0.out.lt)
            have H2 := Lib.hid (H1.out.below b2)
            have IN2 := Lib.hid (IN1.out.below b2)
            clear b2 HB0 H1 IN1
            have x0 : w2.cell? ⟨wr.heap.size, 0, none⟩ = some (.int .i64 5) := HB2.out.cell' rfl
            have x1 : w2.cell? ⟨wr.heap.size, 1, none⟩ = some (.string ⟨#[]⟩) := HB2.out.cell' rfl
            have x2 : w2.cell? ⟨wr.heap.size, 2, none⟩ = some (.int .i64 0) := HB2.out.cell' rfl
            have x3 : w2.cell? ⟨wr.heap.size, 3, none⟩ = some (.int .i64 0) := HB2.out.cell' rfl
            have x4 : w2.cell? ⟨wr.heap.size, 4, none⟩ = some (.int .i64 0) := HB2.out.cell' rfl
            have x5 : w2.cell? ⟨wr.heap.size, 5, none⟩ = some (.int .u64 0) := HB2.out.cell' rfl
            have x6 : w2.cell? ⟨wr.heap.size, 6, none⟩ = some (.slice Ax us.length cx) := HB2.out.cell' rfl
            have lx := HB2.out.lt
            go_wp2_with fail
            go_ret
            exact ⟨rfl, H2.out.bel⟩
          | true =>
            refine (short ⟨5, ⟨#[]⟩, 0, 0, 0, 0, Ax, cx, us⟩ IN1.out hsh).mono ?_
            rintro e w2 ⟨rfl, b2⟩
            have HB2 := Lib.hid (HB0.out.below b2 HB0.out.lt)
            have H2 := Lib.hid (H1.out.below b2)
            have IN2 := Lib.hid (IN1.out.below b2)
            clear b2 HB0 H1 IN1
            have x0 : w2.cell? ⟨wr.heap.size, 0, none⟩ = some (.int .i64 5) := HB2.out.cell' rfl
            have x1 : w2.cell? ⟨wr.heap.size, 1, none⟩ = some (.string ⟨#[]⟩) := HB2.out.cell' rfl
            have x2 : w2.cell? ⟨wr.heap.size, 2, none⟩ = some (.int .i64 0) := HB2.out.cell' rfl
            have x3 : w2.cell? ⟨wr.heap.size, 3, none⟩ = some (.int .i64 0) := HB2.out.cell' rfl
            have x4 : w2.cell? ⟨wr.heap.size, 4, none⟩ = some (.int .i64 0) := HB2.out.cell' rfl
            have x5 : w2.cell? ⟨wr.heap.size, 5, none⟩ = some (.int .u64 0) := HB2.out.cell' rfl
            have x6 : w2.cell? ⟨wr.heap.size, 6, none⟩ = some (.slice Ax us.length cx) := HB2.out.cell' rfl
            have lx := HB2.out.lt
            go_wp2_with fail
            cases hg : goodB ⟨5, ⟨#[]⟩, 0, 0, 0, 0, Ax, cx, us⟩ with
            | false =>
              refine (bad ⟨5, ⟨#[]⟩, 0, 0, 0, 0, Ax, cx, us⟩ IN2.out (r := true) (by rw [hg]; rfl)).mono ?_
              rintro e w3 ⟨rfl, b3⟩
              have HB3 := Lib.hid (HB2.out.below b3 HB2.out.lt)
              have H3 := Lib.hid (H2.out.below b3)
              have IN3 := Lib.hid (IN2.out.below b3)
              clear b3 HB2 H2 IN2 x0 x1 x2 x3 x4 x5 x6 lx
              have x0 : w3.cell? ⟨wr.heap.size, 0, none⟩ = some (.int .i64 5) := HB3.out.cell' rfl
              have x1 : w3.cell? ⟨wr.heap.size, 1, none⟩ = some (.string ⟨#[]⟩) := HB3.out.cell' rfl
              have x2 : w3.cell? ⟨wr.heap.size, 2, none⟩ = some (.int .i64 0) := HB3.out.cell' rfl
              have x3 : w3.cell? ⟨wr.heap.size, 3, none⟩ = some (.int .i64 0) := HB3.out.cell' rfl
              have x4 : w3.cell? ⟨wr.heap.size, 4, none⟩ = some (.int .i64 0) := HB3.out.cell' rfl
              have x5 : w3.cell? ⟨wr.heap.size, 5, none⟩ = some (.int .u64 0) := HB3.out.cell' rfl
              have x6 : w3.cell? ⟨wr.heap.size, 6, none⟩ = some (.slice Ax us.length cx) := HB3.out.cell' rfl
              have lx := HB3.out.lt
              go_wp2_with fail
              go_ret
              exact ⟨rfl, H3.out.bel⟩
            | true =>
              refine (bad ⟨5, ⟨#[]⟩, 0, 0, 0, 0, Ax, cx, us⟩ IN2.out (r := false) (by rw [hg]; rfl)).mono ?_
              rintro e w3 ⟨rfl, b3⟩
              have HB3 := Lib.hid (HB2.out.below b3 HB2.out.lt)
              have H3 := Lib.hid (H2.out.below b3)
              have IN3 := Lib.hid (IN2.out.below b3)
              clear b3 HB2 H2 IN2 x0 x1 x2 x3 x4 x5 x6 lx
              have x0 : w3.cell? ⟨wr.heap.size, 0, none⟩ = some (.int .i64 5) := HB3.out.cell' rfl
              have x1 : w3.cell? ⟨wr.heap.size, 1, none⟩ = some (.string ⟨#[]⟩) := HB3.out.cell' rfl
              have x2 : w3.cell? ⟨wr.heap.size, 2, none⟩ = some (.int .i64 0) := HB3.out.cell' rfl
              have x3 : w3.cell? ⟨wr.heap.size, 3, none⟩ = some (.int .i64 0) := HB3.out.cell' rfl
              have x4 : w3.cell? ⟨wr.heap.size, 4, none⟩ = some (.int .i64 0) := HB3.out.cell' rfl
              have x5 : w3.cell? ⟨wr.heap.size, 5, none⟩ = some (.int .u64 0) := HB3.out.cell' rfl
              have x6 : w3.cell? ⟨wr.heap.size, 6, none⟩ = some (.slice Ax us.length cx) := HB3.out.cell' rfl
              have lx := HB3.out.lt
              go_wp2_with fail
              refine (time H3.out.tab).mono ?_
              rintro e w4 ⟨rfl, b4⟩
              have HB4 := Lib.hid (HB3.out.below b4 HB3.out.lt)
              have H4 := Lib.hid (H3.out.below b4)
              have IN4 := Lib.hid (IN3.out.below b4)
              clear b4 HB3 H3 IN3 x0 x1 x2 x3 x4 x5 x6 lx
              have x0 : w4.cell? ⟨wr.heap.size, 0, none⟩ = some (.int .i64 5) := HB4.out.cell' rfl
              have x1 : w4.cell? ⟨wr.heap.size, 1, none⟩ = some (.string ⟨#[]⟩) := HB4.out.cell' rfl
              have x2 : w4.cell? ⟨wr.heap.size, 2, none⟩ = some (.int .i64 0) := HB4.out.cell' rfl
              have x3 : w4.cell? ⟨wr.heap.size, 3, none⟩ = some (.int .i64 0) := HB4.out.cell' rfl
              have x4 : w4.cell? ⟨wr.heap.size, 4, none⟩ = some (.int .i64 0) := HB4.out.cell' rfl
              have x5 : w4.cell? ⟨wr.heap.size, 5, none⟩ = some (.int .u64 0) := HB4.out.cell' rfl
              have x6 : w4.cell? ⟨wr.heap.size, 6, none⟩ = some (.slice Ax us.length cx) := HB4.out.cell' rfl
              have lx := HB4.out.lt
              cases hcl : ((Mo.new small).run l).closed with
              | true =>
                go_wp2_with fail
                go_ret
                exact ⟨rfl, H4.out.bel⟩
              | false =>
                have KN := K1.out
                go_wp2_with fail
                generalize (Mo.new small).run l = a at *
                have HD := do5k (b := 120) (w := w4) (base := w.heap.size) (S := S) (m := m) (a := a) ⟨#[]⟩ 0 0 0 0 Ax cx us H4.out.tab HO.out (by omega) H4.out.bel.size k2 IN4.out hg hcl
                rw [ask5 hcl] at HD
                refine HD.mono ?_
                clear HD
                rintro e w5 ⟨A5, c5, A6, c6, rfl, hs5, _, hT, hG⟩
                simp only at hs5
                have hvl : (us.map a.pres).length = us.length := List.length_map ..
                rw [hvl]
                clear hvl
                have HSl : Hid (∀ x, S x → x < w4.heap.size) := fun x hx => (H4.out.tab.ok x hx).2
                have l45 := hG.touch.size
                have H5 := Lib.hid (H4.out.gone hT hG)
                have HS5 := Lib.hid hs5
                clear hT hG hs5
                have bx := (Below.refl w5.heap.size w5).alloc (Nat.le_refl _) (.cells #[.int .i64 0, .slice A5 us.length c5, .slice A6 0 c6, .bool false] 43)
                have HR6 := Lib.hid (Is.new w5 43 #[.int .i64 0, .slice A5 us.length c5, .slice A6 0 c6, .bool false] rfl)
                have H6 := Lib.hid (H5.out.below bx)
                have HS6 := Lib.hid (HS5.out.below bx)
                have l56 := bx.size
                clear bx H5 HS5 HB4 H4 IN4 x0 x1 x2 x3 x4 x5 x6 lx
                go_wp2_with fail
                generalize w5.alloc (.cells #[.int .i64 0, .slice A5 us.length c5, .slice A6 0 c6, .bool false] 43) = w6 at *
                obtain ⟨v4, hv4⟩ : ∃ n, w4.heap.size = n := ⟨_, rfl⟩
                obtain ⟨v5, hv5⟩ : ∃ n, w5.heap.size = n := ⟨_, rfl⟩
                rw [hv4] at HS6 HSl l45
                rw [hv5] at HS6 HR6 l45 l56 ⊢
                clear hv4 hv5
                have HGU : Hid (∀ u ∈ us, nameB u = true) := by
                  show ∀ u ∈ us, nameB u = true
                  have h1 := hg
                  unfold goodB at h1
                  simp at h1
                  exact fun u hu => by simpa using h1.2 u hu
                clear hg hsh
                go_loopw [12] (fun vi wr => ∃ i : Nat, i ≤ us.length ∧ vi = .int .i64 i ∧ Live w wr w.heap.size S m a ∧ Is wr v5 43 #[.int .i64 0, .slice A5 us.length c5, .slice A6 0 c6, .bool false] ∧ Seq wr v4 v5 A5 (flatPr (us.map a.pres)) ∧ v5 ≤ wr.heap.size) (fun vi _ => us.length - (intOf vi).toNat)
                case atStart => exact ⟨0, Nat.zero_le _, rfl, H6.out, HR6.out, HS6.out, l56⟩
                case round =>
                  clear H6 HR6 HS6 l56 H
                  obtain ⟨i, hi, rfl, hL, hI, hSq, hsz⟩ := hrel
                  have H := Lib.hid hL
                  have HR := Lib.hid hI
                  have HS2 := Lib.hid hSq
                  clear hL hI hSq
                  by_cases hlt2 : i < us.length
                  · have e1 : decide ((i : Int) < (us.length : Int)) = true := by simp; omega
                    obtain ⟨bu, ou, hAx, _, hbu, cu0⟩ := (HX.out.below H.out.bel).str hlt2
                    subst hAx
                    have lbu : bu < wr.heap.size := Nat.lt_of_lt_of_le hbu H.out.bel.size
                    obtain ⟨bv, ov, hA5, hv1, hv2, hvc⟩ := Seq.row (cells := cellsPr) (fun _ => rfl) (by decide : 0 < 3) HS2.out (i := i) (by simpa using hlt2)
                    subst hA5
                    have HUM := Lib.hid (List.getElem_mem hlt2)
                    have hus := HXU.out _ HUM.out
                    have hgu := HGU.out _ HUM.out
                    obtain ⟨p, hp⟩ : ∃ p, a.pres us[i] = p := ⟨_, rfl⟩
                    obtain ⟨s0, s1, s2⟩ := p
                    simp only [List.getElem_map] at hvc
                    rw [hp] at hvc
                    have v0 : wr.cell? ⟨bv, ov + i * 3, none⟩ = some (.int .i64 s0) := by simpa using hvc 0 _ rfl
                    have v1 : wr.cell? ⟨bv, ov + i * 3 + 1, none⟩ = some (.int .i64 s1) := hvc 1 _ rfl
                    have v2 : wr.cell? ⟨bv, ov + i * 3 + 2, none⟩ = some (.int .i64 s2) := hvc 2 _ rfl
                    clear hvc
                    generalize us[i] = u at *
                    go_wp2_with fail
                    have HD := do4k (b := 120) (w := wr) (base := w.heap.size) (S := S) (m := m) (a := a) u 0 0 0 0 none 0 [] H.out.tab HO.out (by omega) H.out.bel.size k2 (lit_in _ _ _ _ _ _ _ hus (by decide)) (by unfold goodB; simpa using hgu) hcl
                    rw [ask4 hcl, hp] at HD
                    refine HD.mono ?_
                    clear HD
                    rintro e w7 ⟨A7, c7, A8, c8, rfl, hs7, _, hT, hG⟩
                    simp only at hs7
                    have H7 := Lib.hid (H.out.gone hT hG)
                    have lw := hG.touch.size
                    have HR7 := Lib.hid (hG.is HR.out (fun hx => by have := HSl.out _ hx; omega))
                    have HS7 := Lib.hid (hG.seq HS2.out hsz (fun x hx => .inl (HSl.out x hx)))
                    have v0 : w7.cell? ⟨bv, ov + i * 3, none⟩ = some (.int .i64 s0) := (World.cell?_of_block (hG.touch.block bv (by omega) (fun hx => by have := HSl.out _ hx; omega))).trans v0
                    have v1 : w7.cell? ⟨bv, ov + i * 3 + 1, none⟩ = some (.int .i64 s1) := (World.cell?_of_block (hG.touch.block bv (by omega) (fun hx => by have := HSl.out _ hx; omega))).trans v1
                    have v2 : w7.cell? ⟨bv, ov + i * 3 + 2, none⟩ = some (.int .i64 s2) := (World.cell?_of_block (hG.touch.block bv (by omega) (fun hx => by have := HSl.out _ hx; omega))).trans v2
                    have cu1 : w7.cell? ⟨bu, ou + i, none⟩ = some (.string u) := (World.cell?_of_block (hG.touch.block bu (by omega) (fun hx => by have h1 := H.out.new _ hx; omega))).trans cu0
                    obtain ⟨bq, oq, hA7, hq1, hq2, hqc⟩ := Seq.row (cells := cellsPr) (fun _ => rfl) (by decide : 0 < 3) hs7 (i := 0) (by simp)
                    subst hA7
                    have q0 : w7.cell? ⟨bq, oq, none⟩ = some (.int .i64 s0) := by simpa using hqc 0 _ rfl
                    have q1 : w7.cell? ⟨bq, oq + 1, none⟩ = some (.int .i64 s1) := by simpa using hqc 1 _ rfl
                    have q2 : w7.cell? ⟨bq, oq + 2, none⟩ = some (.int .i64 s2) := by simpa using hqc 2 _ rfl
                    clear hqc hs7 hT hG H HR HS2 cu0
                    have bx := (Below.refl w7.heap.size w7).alloc (Nat.le_refl _) (.cells #[.int .i64 0, .slice (some ⟨bq, oq, none⟩) 1 c7, .slice A8 0 c8, .bool false] 43)
                    have HQ8 := Lib.hid (Is.new w7 43 #[.int .i64 0, .slice (some ⟨bq, oq, none⟩) 1 c7, .slice A8 0 c8, .bool false] rfl)
                    have H8 := Lib.hid (H7.out.below bx)
                    have HR8 := Lib.hid (HR7.out.below bx HR7.out.lt)
                    have HS8 := Lib.hid (HS7.out.below (bx.mono (by omega)))
                    have l78 := bx.size
                    replace v0 := (bx.cell (p := ⟨bv, ov + i * 3, none⟩) (show bv < w7.heap.size by omega)).trans v0
                    replace v1 := (bx.cell (p := ⟨bv, ov + i * 3 + 1, none⟩) (show bv < w7.heap.size by omega)).trans v1
                    replace v2 := (bx.cell (p := ⟨bv, ov + i * 3 + 2, none⟩) (show bv < w7.heap.size by omega)).trans v2
                    replace cu1 := (bx.cell (p := ⟨bu, ou + i, none⟩) (show bu < w7.heap.size by omega)).trans cu1
                    replace q0 := (bx.cell (p := ⟨bq, oq, none⟩) (show bq < w7.heap.size by omega)).trans q0
                    replace q1 := (bx.cell (p := ⟨bq, oq + 1, none⟩) (show bq < w7.heap.size by omega)).trans q1
                    replace q2 := (bx.cell (p := ⟨bq, oq + 2, none⟩) (show bq < w7.heap.size by omega)).trans q2
                    clear bx H7 HR7 HS7
                    go_wp2_with fail
                    generalize w7.alloc (.cells #[.int .i64 0, .slice (some ⟨bq, oq, none⟩) 1 c7, .slice A8 0 c8, .bool false] 43) = w8 at *
                    obtain ⟨v7, hv7⟩ : ∃ n, w7.heap.size = n := ⟨_, rfl⟩
                    rw [hv7] at HQ8 l78 lw hq2
                    simp only [hv7]
                    clear hv7
                    have lq8 := HQ8.out.lt
                    have z1 : w8.cell? ⟨v7, 1, none⟩ = some (.slice (some ⟨bq, oq, none⟩) 1 c7) := HQ8.out.cell' rfl
                    have r1 : w8.cell? ⟨v5, 1, none⟩ = some (.slice (some ⟨bv, ov, none⟩) us.length c5) := HR8.out.cell' rfl
                    refine wp_region_held_drew (S := fun w' => w'.cell? ⟨v7, 1, none⟩ = some (.slice (some ⟨bq, oq, none⟩) 1 c7) ∧ w'.cell? ⟨bq, oq, none⟩ = some (.int .i64 s0) ∧ w'.cell? ⟨bq, oq + 1, none⟩ = some (.int .i64 s1) ∧ w'.cell? ⟨bq, oq + 2, none⟩ = some (.int .i64 s2) ∧ w'.cell? ⟨v5, 1, none⟩ = some (.slice (some ⟨bv, ov, none⟩) us.length c5) ∧ w'.cell? ⟨bv, ov + i * 3, none⟩ = some (.int .i64 s0) ∧ w'.cell? ⟨bv, ov + i * 3 + 1, none⟩ = some (.int .i64 s1) ∧ w'.cell? ⟨bv, ov + i * 3 + 2, none⟩ = some (.int .i64 s2) ∧ w'.cell? ⟨bu, ou + i, none⟩ = some (.string u)) (by kernel_rfl) ⟨z1, q0, q1, q2, r1, v0, v1, v2, cu1⟩ (fun hS0 => ?_)
                    refine wpAnyH_take (i := 0) (oi := { dst := some 96, op := .fieldAddr 43 (.tmp 13) 1, type := _, pos := _, after := _, guard := _ }) (v := .pointer (some ⟨v7, 1, none⟩)) rfl (by kernel_rfl) (by kernel_rfl) (by kernel_rfl) (fun _ _ _ h => h) (Or.inl ⟨by rfl, ?_⟩) hS0 ?_
                    · intro w' hSw
                      go_simp
                    try simp only [Act.put, List.setIfInBounds_toArray, List.set_cons_zero, List.set_cons_succ]
                    refine wpAnyH_take (i := 1) (oi := { dst := some 97, op := .load 40 (.tmp 96), type := _, pos := _, after := _, guard := _ }) (v := .slice (some ⟨bq, oq, none⟩) 1 c7) rfl (by kernel_rfl) (by kernel_rfl) (by kernel_rfl) (fun _ _ _ h => h) (Or.inl ⟨by rfl, ?_⟩) hS0 ?_
                    · intro w' hSw
                      obtain ⟨s0', s1', s2', s3', s4', s5', s6', s7', s8'⟩ := hSw
                      go_simp
                    try simp only [Act.put, List.setIfInBounds_toArray, List.set_cons_zero, List.set_cons_succ]
                    refine wpAnyH_take (i := 2) (oi := { dst := some 98, op := .call { callee := .builtin .len, args := #[.tmp 97], argTypes := _ }, type := _, pos := _, after := _, guard := _ }) (v := .int .i64 1) rfl (by kernel_rfl) (by kernel_rfl) (by kernel_rfl) (fun _ _ _ h => h) (Or.inl ⟨by rfl, ?_⟩) hS0 ?_
                    · intro w' hSw
                      go_simp
                    try simp only [Act.put, List.setIfInBounds_toArray, List.set_cons_zero, List.set_cons_succ]
                    refine wpAnyH_take (i := 3) (oi := { dst := some 99, op := .binOp .neq 3 (.tmp 98) (.const (.int .i64 1)) 3, type := _, pos := _, after := _, guard := _ }) (v := .bool false) rfl (by kernel_rfl) (by kernel_rfl) (by kernel_rfl) (fun _ _ _ h => h) (Or.inl ⟨by rfl, ?_⟩) hS0 ?_
                    · intro w' hSw
                      go_simp
                    try simp only [Act.put, List.setIfInBounds_toArray, List.set_cons_zero, List.set_cons_succ]
                    refine wpAnyH_take (i := 4) (oi := { dst := some 100, op := .move (.tmp 99), type := _, pos := _, after := _, guard := _ }) (v := .bool false) rfl (by kernel_rfl) (by kernel_rfl) (by kernel_rfl) (fun _ _ _ h => h) (Or.inl ⟨by rfl, ?_⟩) hS0 ?_
                    · intro w' hSw
                      go_simp
                    try simp only [Act.put, List.setIfInBounds_toArray, List.set_cons_zero, List.set_cons_succ]
                    refine wpAnyH_take (i := 5) (oi := { dst := some 101, op := .fieldAddr 43 (.tmp 13) 1, type := _, pos := _, after := _, guard := _ }) (v := .pointer (some ⟨v7, 1, none⟩)) rfl (by kernel_rfl) (by kernel_rfl) (by kernel_rfl) (fun _ _ _ h => h) (Or.inl ⟨by rfl, ?_⟩) hS0 ?_
                    · intro w' hSw
                      go_simp
                    try simp only [Act.put, List.setIfInBounds_toArray, List.set_cons_zero, List.set_cons_succ]
                    refine wpAnyH_take (i := 6) (oi := { dst := some 102, op := .load 40 (.tmp 101), type := _, pos := _, after := _, guard := _ }) (v := .slice (some ⟨bq, oq, none⟩) 1 c7) rfl (by kernel_rfl) (by kernel_rfl) (by kernel_rfl) (fun _ _ _ h => h) (Or.inl ⟨by rfl, ?_⟩) hS0 ?_
                    · intro w' hSw
                      obtain ⟨s0', s1', s2', s3', s4', s5', s6', s7', s8'⟩ := hSw
                      go_simp
                    try simp only [Act.put, List.setIfInBounds_toArray, List.set_cons_zero, List.set_cons_succ]
                    refine wpAnyH_take (i := 7) (oi := { dst := some 103, op := .indexAddr 40 (.tmp 102) (.const (.int .i64 0)), type := _, pos := _, after := _, guard := _ }) (v := .pointer (some ⟨bq, oq, none⟩)) rfl (by kernel_rfl) (by kernel_rfl) (by kernel_rfl) (fun _ _ _ h => h) (Or.inl ⟨by rfl, ?_⟩) hS0 ?_
                    · intro w' hSw
                      go_simp; (try (intro h8; omega))
                    try simp only [Act.put, List.setIfInBounds_toArray, List.set_cons_zero, List.set_cons_succ]
                    refine wpAnyH_take (i := 8) (oi := { dst := some 104, op := .load 57 (.tmp 103), type := _, pos := _, after := _, guard := _ }) (v := .agg #[.int .i64 s0, .int .i64 s1, .int .i64 s2]) rfl (by kernel_rfl) (by kernel_rfl) (by kernel_rfl) (fun _ _ _ h => h) (Or.inl ⟨by rfl, ?_⟩) hS0 ?_
                    · intro w' hSw
                      obtain ⟨s0', s1', s2', s3', s4', s5', s6', s7', s8'⟩ := hSw
                      go_simp
                    try simp only [Act.put, List.setIfInBounds_toArray, List.set_cons_zero, List.set_cons_succ]
                    refine wpAnyH_take (i := 9) (oi := { dst := some 105, op := .fieldAddr 43 (.tmp 11) 1, type := _, pos := _, after := _, guard := _ }) (v := .pointer (some ⟨v5, 1, none⟩)) rfl (by kernel_rfl) (by kernel_rfl) (by kernel_rfl) (fun _ _ _ h => h) (Or.inl ⟨by rfl, ?_⟩) hS0 ?_
                    · intro w' hSw
                      go_simp
                    try simp only [Act.put, List.setIfInBounds_toArray, List.set_cons_zero, List.set_cons_succ]
                    refine wpAnyH_take (i := 10) (oi := { dst := some 106, op := .load 40 (.tmp 105), type := _, pos := _, after := _, guard := _ }) (v := .slice (some ⟨bv, ov, none⟩) us.length c5) rfl (by kernel_rfl) (by kernel_rfl) (by kernel_rfl) (fun _ _ _ h => h) (Or.inl ⟨by rfl, ?_⟩) hS0 ?_
                    · intro w' hSw
                      obtain ⟨s0', s1', s2', s3', s4', s5', s6', s7', s8'⟩ := hSw
                      go_simp
                    try simp only [Act.put, List.setIfInBounds_toArray, List.set_cons_zero, List.set_cons_succ]
                    refine wpAnyH_take (i := 11) (oi := { dst := some 107, op := .move (.tmp 12), type := _, pos := _, after := _, guard := _ }) (v := .int .i64 (i : Int)) rfl (by kernel_rfl) (by kernel_rfl) (by kernel_rfl) (fun _ _ _ h => h) (Or.inl ⟨by rfl, ?_⟩) hS0 ?_
                    · intro w' hSw
                      go_simp
                    try simp only [Act.put, List.setIfInBounds_toArray, List.set_cons_zero, List.set_cons_succ]
                    refine wpAnyH_take (i := 12) (oi := { dst := some 108, op := .indexAddr 40 (.tmp 106) (.tmp 107), type := _, pos := _, after := _, guard := _ }) (v := .pointer (some ⟨bv, ov + i * 3, none⟩)) rfl (by kernel_rfl) (by kernel_rfl) (by kernel_rfl) (fun _ _ _ h => h) (Or.inl ⟨by rfl, ?_⟩) hS0 ?_
                    · intro w' hSw
                      go_simp; (try (intro h8; omega))
                    try simp only [Act.put, List.setIfInBounds_toArray, List.set_cons_zero, List.set_cons_succ]
                    refine wpAnyH_take (i := 13) (oi := { dst := some 109, op := .load 57 (.tmp 108), type := _, pos := _, after := _, guard := _ }) (v := .agg #[.int .i64 s0, .int .i64 s1, .int .i64 s2]) rfl (by kernel_rfl) (by kernel_rfl) (by kernel_rfl) (fun _ _ _ h => h) (Or.inl ⟨by rfl, ?_⟩) hS0 ?_
                    · intro w' hSw
                      obtain ⟨s0', s1', s2', s3', s4', s5', s6', s7', s8'⟩ := hSw
                      go_simp
                    try simp only [Act.put, List.setIfInBounds_toArray, List.set_cons_zero, List.set_cons_succ]
                    refine wpAnyH_take (i := 14) (oi := { dst := some 110, op := .binOp .neq 57 (.tmp 104) (.tmp 109) 57, type := _, pos := _, after := _, guard := _ }) (v := .bool false) rfl (by kernel_rfl) (by kernel_rfl) (by kernel_rfl) (fun _ _ _ h => h) (Or.inl ⟨by rfl, ?_⟩) hS0 ?_
                    · intro w' hSw
                      go_simp
                    try simp only [Act.put, List.setIfInBounds_toArray, List.set_cons_zero, List.set_cons_succ]
                    refine wpAnyH_take (i := 15) (oi := { dst := some 111, op := .pick (.tmp 100) (.const (.bool true)) (.tmp 110), type := _, pos := _, after := _, guard := _ }) (v := .bool false) rfl (by kernel_rfl) (by kernel_rfl) (by kernel_rfl) (fun _ _ _ h => h) (Or.inl ⟨by rfl, ?_⟩) hS0 ?_
                    · intro w' hSw
                      go_simp
                    try simp only [Act.put, List.setIfInBounds_toArray, List.set_cons_zero, List.set_cons_succ]
                    refine wpAnyH_take (i := 16) (oi := { dst := some 112, op := .move (.tmp 111), type := _, pos := _, after := _, guard := _ }) (v := .bool false) rfl (by kernel_rfl) (by kernel_rfl) (by kernel_rfl) (fun _ _ _ h => h) (Or.inl ⟨by rfl, ?_⟩) hS0 ?_
                    · intro w' hSw
                      go_simp
                    try simp only [Act.put, List.setIfInBounds_toArray, List.set_cons_zero, List.set_cons_succ]
                    refine wpAnyH_take (i := 17) (oi := { dst := some 113, op := .move (.tmp 7), type := _, pos := _, after := _, guard := _ }) (v := .pointer (some ⟨m, 0, none⟩)) rfl (by kernel_rfl) (by kernel_rfl) (by kernel_rfl) (fun _ _ _ h => h) (Or.inl ⟨by rfl, ?_⟩) hS0 ?_
                    · intro w' hSw
                      go_simp
                    try simp only [Act.put, List.setIfInBounds_toArray, List.set_cons_zero, List.set_cons_succ]
                    refine wpAnyH_take (i := 18) (oi := { dst := some 114, op := .move (.tmp 1), type := _, pos := _, after := _, guard := _ }) (v := .slice (some ⟨bu, ou, none⟩) us.length cx) rfl (by kernel_rfl) (by kernel_rfl) (by kernel_rfl) (fun _ _ _ h => h) (Or.inl ⟨by rfl, ?_⟩) hS0 ?_
                    · intro w' hSw
                      go_simp
                    try simp only [Act.put, List.setIfInBounds_toArray, List.set_cons_zero, List.set_cons_succ]
                    refine wpAnyH_take (i := 19) (oi := { dst := some 115, op := .move (.tmp 12), type := _, pos := _, after := _, guard := _ }) (v := .int .i64 (i : Int)) rfl (by kernel_rfl) (by kernel_rfl) (by kernel_rfl) (fun _ _ _ h => h) (Or.inl ⟨by rfl, ?_⟩) hS0 ?_
                    · intro w' hSw
                      go_simp
                    try simp only [Act.put, List.setIfInBounds_toArray, List.set_cons_zero, List.set_cons_succ]
                    refine wpAnyH_take (i := 20) (oi := { dst := some 116, op := .indexAddr 35 (.tmp 114) (.tmp 115), type := _, pos := _, after := _, guard := _ }) (v := .pointer (some ⟨bu, ou + i, none⟩)) rfl (by kernel_rfl) (by kernel_rfl) (by kernel_rfl) (fun _ _ _ h => h) (Or.inl ⟨by rfl, ?_⟩) hS0 ?_
                    · intro w' hSw
                      go_simp; (try (intro h8; omega))
                    try simp only [Act.put, List.setIfInBounds_toArray, List.set_cons_zero, List.set_cons_succ]
                    refine wpAnyH_take (i := 21) (oi := { dst := some 117, op := .load 9 (.tmp 116), type := _, pos := _, after := _, guard := _ }) (v := .string u) rfl (by kernel_rfl) (by kernel_rfl) (by kernel_rfl) (fun _ _ _ h => h) (Or.inl ⟨by rfl, ?_⟩) hS0 ?_
                    · intro w' hSw
                      obtain ⟨s0', s1', s2', s3', s4', s5', s6', s7', s8'⟩ := hSw
                      go_simp
                    try simp only [Act.put, List.setIfInBounds_toArray, List.set_cons_zero, List.set_cons_succ]
                    refine wpAnyH_take (i := 23) (oi := { dst := some 119, op := .fieldAddr 43 (.tmp 11) 1, type := _, pos := _, after := _, guard := _ }) (v := .pointer (some ⟨v5, 1, none⟩)) rfl (by kernel_rfl) (by kernel_rfl) (by kernel_rfl) (fun _ _ _ h => h) (Or.inl ⟨by rfl, ?_⟩) hS0 ?_
                    · intro w' hSw
                      go_simp
                    try simp only [Act.put, List.setIfInBounds_toArray, List.set_cons_zero, List.set_cons_succ]
                    refine wpAnyH_take (i := 24) (oi := { dst := some 120, op := .load 40 (.tmp 119), type := _, pos := _, after := _, guard := _ }) (v := .slice (some ⟨bv, ov, none⟩) us.length c5) rfl (by kernel_rfl) (by kernel_rfl) (by kernel_rfl) (fun _ _ _ h => h) (Or.inl ⟨by rfl, ?_⟩) hS0 ?_
                    · intro w' hSw
                      obtain ⟨s0', s1', s2', s3', s4', s5', s6', s7', s8'⟩ := hSw
                      go_simp
                    try simp only [Act.put, List.setIfInBounds_toArray, List.set_cons_zero, List.set_cons_succ]
                    refine wpAnyH_take (i := 25) (oi := { dst := some 121, op := .move (.tmp 12), type := _, pos := _, after := _, guard := _ }) (v := .int .i64 (i : Int)) rfl (by kernel_rfl) (by kernel_rfl) (by kernel_rfl) (fun _ _ _ h => h) (Or.inl ⟨by rfl, ?_⟩) hS0 ?_
                    · intro w' hSw
                      go_simp
                    try simp only [Act.put, List.setIfInBounds_toArray, List.set_cons_zero, List.set_cons_succ]
                    refine wpAnyH_take (i := 26) (oi := { dst := some 122, op := .indexAddr 40 (.tmp 120) (.tmp 121), type := _, pos := _, after := _, guard := _ }) (v := .pointer (some ⟨bv, ov + i * 3, none⟩)) rfl (by kernel_rfl) (by kernel_rfl) (by kernel_rfl) (fun _ _ _ h => h) (Or.inl ⟨by rfl, ?_⟩) hS0 ?_
                    · intro w' hSw
                      go_simp; (try (intro h8; omega))
                    try simp only [Act.put, List.setIfInBounds_toArray, List.set_cons_zero, List.set_cons_succ]
                    refine wpAnyH_take (i := 27) (oi := { dst := some 123, op := .load 57 (.tmp 122), type := _, pos := _, after := _, guard := _ }) (v := .agg #[.int .i64 s0, .int .i64 s1, .int .i64 s2]) rfl (by kernel_rfl) (by kernel_rfl) (by kernel_rfl) (fun _ _ _ h => h) (Or.inl ⟨by rfl, ?_⟩) hS0 ?_
                    · intro w' hSw
                      obtain ⟨s0', s1', s2', s3', s4', s5', s6', s7', s8'⟩ := hSw
                      go_simp
                    try simp only [Act.put, List.setIfInBounds_toArray, List.set_cons_zero, List.set_cons_succ]
                    refine wpAnyH_ready (rs := [22]) (by kernel_rfl) (by simp) ?_
                    refine AllReadyH.cons (o := { dst := some 118, op := .call { callee := .value (.func 23), args := #[.tmp 113, .tmp 117], argTypes := _ }, type := _, pos := _, after := _, guard := _ }) rfl (fun K hK => ?_) AllReadyH.nil
                    go_simp
                    refine Calls.mono (Mod.presence (H8.out.tab.below (Law.below_drewN (Below.refl _ w8) 1)) HO.out (by omega) u hus hp) ?_
                    rintro e w9 ⟨rfl, b9d⟩
                    have b9 : Below w8.heap.size w8 w9 := (Law.below_drewN (Below.refl _ w8) 1).trans b9d
                    have H9 := Lib.hid (H8.out.below b9)
                    have HR9 := Lib.hid (HR8.out.below b9 HR8.out.lt)
                    have HS9 := Lib.hid (HS8.out.below (b9.mono (by omega)))
                    have l89 := b9.size
                    clear H8 HS8
                    go_wp2_with fail
                    refine hK.out _ _ ⟨(b9.cell (p := ⟨v7, 1, none⟩) (show v7 < w8.heap.size by omega)).trans z1, (b9.cell (p := ⟨bq, oq, none⟩) (show bq < w8.heap.size by omega)).trans q0, (b9.cell (p := ⟨bq, oq + 1, none⟩) (show bq < w8.heap.size by omega)).trans q1, (b9.cell (p := ⟨bq, oq + 2, none⟩) (show bq < w8.heap.size by omega)).trans q2, (b9.cell (p := ⟨v5, 1, none⟩) (show v5 < w8.heap.size by omega)).trans r1, (b9.cell (p := ⟨bv, ov + i * 3, none⟩) (show bv < w8.heap.size by omega)).trans v0, (b9.cell (p := ⟨bv, ov + i * 3 + 1, none⟩) (show bv < w8.heap.size by omega)).trans v1, (b9.cell (p := ⟨bv, ov + i * 3 + 2, none⟩) (show bv < w8.heap.size by omega)).trans v2, (b9.cell (p := ⟨bu, ou + i, none⟩) (show bu < w8.heap.size by omega)).trans cu1⟩ (fun hS1 => ?_)
                    clear hK K
                    try simp only [Act.put, List.setIfInBounds_toArray, List.set_cons_zero, List.set_cons_succ]
                    refine wpAnyH_take (i := 28) (oi := { dst := some 124, op := .binOp .neq 57 (.tmp 118) (.tmp 123) 57, type := _, pos := _, after := _, guard := _ }) (v := .bool false) rfl (by kernel_rfl) (by kernel_rfl) (by kernel_rfl) (fun _ _ _ h => h) (Or.inl ⟨by rfl, ?_⟩) hS1 ?_
                    · intro w' hSw
                      go_simp
                    try simp only [Act.put, List.setIfInBounds_toArray, List.set_cons_zero, List.set_cons_succ]
                    refine wpAnyH_take (i := 29) (oi := { dst := some 125, op := .pick (.tmp 112) (.const (.bool true)) (.tmp 124), type := _, pos := _, after := _, guard := _ }) (v := .bool false) rfl (by kernel_rfl) (by kernel_rfl) (by kernel_rfl) (fun _ _ _ h => h) (Or.inl ⟨by rfl, ?_⟩) hS1 ?_
                    · intro w' hSw
                      go_simp
                    try simp only [Act.put, List.setIfInBounds_toArray, List.set_cons_zero, List.set_cons_succ]
                    refine wpAnyH_done (by kernel_rfl) ?_ _
                    go_wp2_with fail
                    go_roundw
                    case rel => exact ⟨i + 1, by omega, by go_num, H9.out, HR9.out, HS9.out, by omega⟩
                    case measure => simp [intOf]; omega
                  · have e1 : decide ((i : Int) < (us.length : Int)) = false := by simp; omega
                    go_wp2_with fail
                    go_ret
                    exact ⟨rfl, H.out.bel⟩
  · have d8 : decide ((8 : Int) < (us.length : Int)) = true := by simp; omega
    have HS := Lib.hid hs
    have HQ := Lib.hid hq
    have HL := Lib.hid hl
    clear hs hq hl
    cases hlong : longM l <;>
    · go_enter Tryz.func8, Tryz.ntmps8
      go_wp2_with fail
      refine (awake w).mono ?_
      rintro e w1 ⟨rfl, b1⟩
      have HB1 := Lib.hid b1
      clear b1
      go_wp2_with fail
      refine (long l A c w1 ((HS.out.below HB1.out).more HB1.out.size) HL.out (fun q hx => (HQ.out q hx).op.in_.below HB1.out) hlong).mono ?_
      rintro e w2 ⟨rfl, b2⟩
      have HB2 := Lib.hid (HB1.out.trans (b2.mono HB1.out.size))
      clear b2
      go_wp2_with fail
      refine (awake w2).mono ?_
      rintro e w3 ⟨rfl, b3⟩
      have HB3 := Lib.hid (HB2.out.trans (b3.mono HB2.out.size))
      clear b3
      go_wp2_with fail
      go_ret
      exact ⟨rfl, HB3.out⟩

set_option maxRecDepth 100000 in
theorem lifted (os : Os) (started : os.Started) (H : Type) (enc : TypeId × Value → H) :
    ReturnsInHanded {} Tryz.checked os 8 .any (Rows.modelBatchSpec.pre6 enc Tryz.prog Tryz.f8 Rows.modelBatchRow.domain false) (Rows.modelBatchSpec.post enc Tryz.prog Tryz.f8 false true false false) := by
  refine returnsInHanded_of_change (C := Tryz.checked) own started (by kernel_rfl) Tryz.func8
    (ChangeSpec.witness6 (enc := enc) (C := Tryz.checked) false ⟨#[], #[.slice none 0 0, .slice none 0 0, .int .u8 0], []⟩ 8 (by kernel_rfl) (by kernel_rfl) (by kernel_rfl) (by kernel_rfl)) ?_
  intro W base args ds gs before hval0 hW hcnd _
  have hval : ∀ (j : Nat) t v, Tryz.f8.params[j]? = some t → args[j]? = some v → Value.okWide Tryz.prog W .any base t v := hval0
  have hW' := hW
  obtain ⟨p, q, hA0, hV, rfl, hfz, hnd⟩ := hW
  have hA : DataW.TrodAll enc Tryz.prog W 0 (fun _ => true) true Tryz.f8.params.toList args.toList ds p := hA0
  rw [Tryz.params8] at hA hval
  obtain ⟨v0, vs0, d0, ds0, p0, q0, hargs, rfl, rfl, h0, r0⟩ := trodAll_cons hA
  obtain ⟨v1, vs1, d1, ds1, p1, q1, rfl, rfl, rfl, h1, r1⟩ := trodAll_cons r0
  obtain ⟨v2, vs2, d2, ds2, p2, q2, rfl, rfl, rfl, h2, r2⟩ := trodAll_cons r1
  obtain ⟨rfl, rfl, rfl⟩ := trodAll_nil r2
  obtain rfl : args = #[v0, v1, v2] := by cases args; simp_all
  obtain ⟨A, c, l, rfl, hs, hl, hq⟩ := open_acts (hval 0 25 v0 rfl rfl) h0
  obtain ⟨B, d, us, rfl, hs', hl', hc', hz'⟩ := Law.open_texts Tryz.underlying35 Tryz.underlying9 (by kernel_rfl) (hval 1 35 v1 rfl rfl) h1
  obtain ⟨a2, rfl, rfl, rfl, w2⟩ := open_int Tryz.underlying5 (hval 2 5 v2 rfl rfl) h2
  refine (Eq.subst (motive := fun z => Calls Tryz.prog 8 #[.slice A l.length c, .slice B us.length d, .int .u8 z] W _) (Int.toNat_of_nonneg (bounds_u8 w2).1) (walk l A c us B d a2.toNat W hs hl hq hs' hl' hz' (by have := bounds_u8 w2; omega))).mono fun e W' ⟨he, bel⟩ => ?_
  subst he
  exact ⟨_, rfl, Law.post_law laidOut (by kernel_rfl) (by kernel_rfl) Tryz.underlying4 rfl (fun ds h => by match ds, h with | [_, _, _], _ => rfl) hW' bel⟩

theorem proved : Rows.ModelBatchSaid :=
  OpenClaim.holds_of_wide 8 Tryz.f8 rfl rfl rfl rfl rfl rfl rfl ⟨rfl, rfl, rfl, rfl, rfl⟩ rfl rfl rfl rfl rfl (by kernel_rfl) Tryz.func8 (by kernel_rfl)
    (of_decide_eq_true (by kernel_rfl)) (by unfold Func.isWrapper; rw [if_neg (by decide +kernel)]; exact ⟨rfl, rfl⟩)
    (fun os started H enc _ => lifted os started H enc)
#print axioms proved
end modelBatch
end Go.Proofs.YtombdjkfbjpipaaGreat
