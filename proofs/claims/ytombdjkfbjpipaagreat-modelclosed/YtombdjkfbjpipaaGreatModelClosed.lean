/-
  Behind a Close whatever is asked, and is not bad, is ErrClosed, but Polls; nobody's presence changes but by time. For all lists of acts and every user's name, no condition.
-/
import Derived.Test.YtombdjkfbjpipaaGreatMod22
namespace Go.Proofs.YtombdjkfbjpipaaGreat
open Go.RowKit Go.ChangeShapes Go.WideShapes Go.ChangeAt
namespace modelClosed
open Feed Go.Law Bk Go.Proofs.YtombdjkfbjpipaaGreat.Mod
theorem closed_pres {a : Mo} {b : Nat} (ho : a.Ok b) (hc : a.closed = true) (q : AcM) (u : ByteArray) (h : q.do_ % 3 ≠ 1) : (a.act q).1.pres u = a.pres u := shut_pres ho hc q h u
theorem act_reply {a : Mo} (hc : a.closed = true) (q : AcM) (h : q.do_ % 3 = 0) : (a.act q).2.vals = [] ∧ (a.act q).2.err = shutE q.who q.op := by
  unfold Mo.act
  rw [if_neg (by omega), if_neg (by omega)]
  exact ⟨(shut_do hc _ _).2.2.1, (shut_do hc _ _).2.2.2⟩
set_option maxRecDepth 100000 in
set_option maxHeartbeats 4000000 in
theorem walk (l : List AcM) (A : Option Addr) (c : Nat) (ms : List AcM) (B : Option Addr) (cb : Nat) (user : ByteArray) (w : World) (hs : Seq w 0 w.heap.size A (l.flatMap cellsM)) (hl : l.length ≤ maxLen) (hq : ∀ q ∈ l, q.Good w)
    (gs : Seq w 0 w.heap.size B (ms.flatMap cellsM)) (gl : ms.length ≤ maxLen) (gq : ∀ q ∈ ms, q.Good w) (hu : user.size ≤ maxLen) :
    Calls Tryz.prog 7 #[.slice A l.length c, .slice B ms.length cb, .string user] w fun e w' => e = .returned (.bool true) ∧ Below w.heap.size w w' := by
  have GS := Lib.hid gs
  have GQ := Lib.hid gq
  have GL := Lib.hid gl
  have HU := Lib.hid hu
  unfold maxLen at gl hu
  clear gs gq
  have HS := Lib.hid hs
  have HQ := Lib.hid hq
  have HL := Lib.hid hl
  clear hs hq hl
  cases hlong : longM l with
  | true =>
    go_enter Tryz.func7, Tryz.ntmps7
    go_wp2_with fail
    refine (awake w).mono ?_
    rintro e w1 ⟨rfl, b1⟩
    have HB1 := Lib.hid b1
    clear b1
    go_wp2_with fail
    refine (long l A c w1 ((HS.out.below HB1.out).more HB1.out.size) HL.out (fun q hx => (HQ.out q hx).op.in_.below HB1.out) hlong).mono ?_
    rintro e w2 ⟨rfl, b2⟩
    have HB2 := Lib.hid (HB1.out.trans (b2.mono HB1.out.size))
    clear b2
    go_wp2_with fail
    refine (awake w2).mono ?_
    rintro e w3 ⟨rfl, b3⟩
    have HB3 := Lib.hid (HB2.out.trans (b3.mono HB2.out.size))
    clear b3
    go_wp2_with fail
    go_ret
    exact ⟨rfl, HB3.out⟩
  | false =>
    obtain ⟨hl1, hsh⟩ := longM_no hlong
    go_enter Tryz.func7, Tryz.ntmps7
    go_wp2_with fail
    refine (awake w).mono ?_
    rintro e w1 ⟨rfl, b1⟩
    have HB1 := Lib.hid b1
    clear b1
    go_wp2_with fail
    refine (long l A c w1 ((HS.out.below HB1.out).more HB1.out.size) HL.out (fun q hx => (HQ.out q hx).op.in_.below HB1.out) hlong).mono ?_
    rintro e w2 ⟨rfl, b2⟩
    have HB2 := Lib.hid (HB1.out.trans (b2.mono HB1.out.size))
    clear b2 HB1
    go_wp2_with fail
    cases hlong2 : longM ms with
    | true =>
      refine (long ms B cb w2 ((GS.out.below HB2.out).more HB2.out.size) GL.out (fun q hx => (GQ.out q hx).op.in_.below HB2.out) hlong2).mono ?_
      rintro e w2' ⟨rfl, b2⟩
      have HB2' := Lib.hid (HB2.out.trans (b2.mono HB2.out.size))
      clear b2 HB2
      go_wp2_with fail
      refine (awake w2').mono ?_
      rintro e w3 ⟨rfl, b3⟩
      have HB3 := Lib.hid (HB2'.out.trans (b3.mono HB2'.out.size))
      clear b3
      go_wp2_with fail
      go_ret
      exact ⟨rfl, HB3.out⟩
    | false =>
      obtain ⟨ml1, msh⟩ := longM_no hlong2
      refine (long ms B cb w2 ((GS.out.below HB2.out).more HB2.out.size) GL.out (fun q hx => (GQ.out q hx).op.in_.below HB2.out) hlong2).mono ?_
      rintro e w2' ⟨rfl, b2⟩
      have HB2' := Lib.hid (HB2.out.trans (b2.mono HB2.out.size))
      clear b2 HB2
      by_cases hu40 : 40 < user.size
      · have d40 : decide ((40 : Int) < (user.size : Int)) = true := by simp; omega
        go_wp2_with fail
        refine (awake w2').mono ?_
        rintro e w3 ⟨rfl, b3⟩
        have HB3 := Lib.hid (HB2'.out.trans (b3.mono HB2'.out.size))
        clear b3
        go_wp2_with fail
        go_ret
        exact ⟨rfl, HB3.out⟩
      · have d40 : decide ((40 : Int) < (user.size : Int)) = false := by simp; omega
        go_wp2_with fail
        refine (small_ w2').mono ?_
        rintro e w3 ⟨rfl, b3⟩
        have HB3 := Lib.hid (HB2'.out.trans (b3.mono HB2'.out.size))
        clear b3 HB2'
        go_wp2_with fail
        refine (new_yes small w3 (base := w.heap.size) HB3.out.size small_right).mono ?_
        rintro e w4 ⟨m, S, rfl, hT, hS, hB⟩
        have H : Hid (Live w w4 w.heap.size S m (Mo.new small)) := ⟨hT, HB3.out.trans (hB.mono HB3.out.size), fun x hx => Nat.le_trans HB3.out.size (hS x hx)⟩
        clear hT hS hB HB3
        go_wp2_with fail
        go_loopw [9] (fun vi wr => ∃ (j : Nat) (S : Nat → Prop), j ≤ l.length ∧ vi = .int .i64 j ∧ Live w wr w.heap.size S m ((Mo.new small).run (l.take j))) (fun vi _ => l.length - (intOf vi).toNat)
        case atStart => exact ⟨0, S, Nat.zero_le _, rfl, H.out⟩
        case round =>
          clear H
          obtain ⟨j, S, hj, rfl, hL⟩ := hrel
          have H := Lib.hid hL
          clear hL
          by_cases hlt : j < l.length
          · have d1 : decide ((j : Int) < (l.length : Int)) = true := by simp; omega
            have hB := H.out.bel
            obtain ⟨b, off, rfl, _, hb, c0, c1, c2, c3, c4, c5, c6, c7, c8, c9⟩ := (HS.out.below hB).acM hlt
            have HM := Lib.hid (List.getElem_mem hlt)
            have HG := Lib.hid (HQ.out _ HM.out)
            have HIN := Lib.hid (HG.out.op.in_.below hB)
            have lb : b < wr.heap.size := Nat.lt_of_lt_of_le hb hB.size
            clear hB
            have HR := Lib.hid (run_take (Mo.new small) hlt)
            have HO := Lib.hid (run_ok_take new_small_ok (fun q hx => bounds_u64 (HQ.out q hx).by_) hl1 j)
            generalize l[j] = q at *
            obtain ⟨dI, qw, ⟨kind, user0, id, st, pr, ttl, Au, cu, us0⟩, by_⟩ := q
            obtain ⟨d, hd⟩ := Int.eq_ofNat_of_zero_le (bounds_u8 HG.out.do_).1
            simp only at hd
            subst hd
            have hd255 := (bounds_u8 HG.out.do_).2
            have hby := bounds_u64 HG.out.by_
            simp only at c0 c1 c2 c3 c4 c5 c6 c7 c8 c9 hd255 hby
            go_wp2_with fail
            refine (befalls ⟨(d : Int), qw, ⟨kind, user0, id, st, pr, ttl, Au, cu, us0⟩, by_⟩ H.out.tab HO.out (by omega) H.out.bel.size HIN.out ⟨Int.natCast_nonneg _, hd255⟩ hby).mono ?_
            rintro e w6 ⟨A1, c1', A2, c2', rfl, _, _, S', hT, hG⟩
            have H6 := Lib.hid (H.out.gone hT hG)
            clear hT hG H
            go_wp2_with fail
            go_roundw
            case rel => exact ⟨j + 1, S', by omega, by go_num, by rw [HR.out]; exact H6.out⟩
            case measure => simp [intOf]; omega
          · have d1 : decide ((j : Int) < (l.length : Int)) = false := by simp; omega
            have e1 : l.take j = l := List.take_of_length_le (by omega)
            rw [e1] at H
            have HO : Hid (((Mo.new small).run l).Ok 120) := (run_ok new_small_ok (fun q hx => bounds_u64 (HQ.out q hx).by_)).more (by omega)
            generalize (Mo.new small).run l = a at *
            go_wp2_with fail
            refine (do_ closeOp H.out.tab HO.out (by omega) H.out.bel.size 0 (lit_in _ _ _ _ _ _ _ (by decide) (by decide))).mono ?_
            rintro e w5 ⟨A1, c1, A2, c2, rfl, _, _, S5, hT, hG⟩
            have H5 := Lib.hid (H.out.gone hT hG)
            have O5 : Hid ((a.do_ 0 closeOp).1.Ok 121) := do_ok HO.out 0 closeOp
            have C5 : Hid ((a.do_ 0 closeOp).1.closed = true) := do_close a
            clear hT hG H HO
            generalize (a.do_ 0 closeOp).1 = a5 at *
            clear hlt d1 e1
            go_wp2_with fail
            go_loopw [10] (fun vi wr => ∃ (j : Nat) (S : Nat → Prop), j ≤ ms.length ∧ vi = .int .i64 j ∧ Live w wr w.heap.size S m (a5.run (ms.take j))) (fun vi _ => ms.length - (intOf vi).toNat)
            case atStart => exact ⟨0, S5, Nat.zero_le _, rfl, H5.out⟩
            case round =>
              clear H5
              obtain ⟨j, S, hj, rfl, hL⟩ := hrel
              have H := Lib.hid hL
              clear hL
              have HO : Hid ((a5.run (ms.take j)).Ok 245) := (run_ok O5.out (l := ms.take j) (fun q hx => bounds_u64 (GQ.out q (List.mem_of_mem_take hx)).by_)).more (by simp; omega)
              have HC : Hid ((a5.run (ms.take j)).closed = true) := shut_run _ C5.out
              by_cases hlt : j < ms.length
              · have d1 : decide ((j : Int) < (ms.length : Int)) = true := by simp; omega
                have hB := H.out.bel
                obtain ⟨b, off, rfl, _, hb, c0, c1, c2, c3, c4, c5, c6, c7, c8, c9⟩ := (GS.out.below hB).acM hlt
                have HM := Lib.hid (List.getElem_mem hlt)
                have HG := Lib.hid (GQ.out _ HM.out)
                have HIN := Lib.hid (HG.out.op.in_.below hB)
                have lb : b < wr.heap.size := Nat.lt_of_lt_of_le hb hB.size
                clear hB
                have HR := Lib.hid (run_take a5 hlt)
                generalize ms[j] = q at *
                generalize a5.run (ms.take j) = a at *
                obtain ⟨dI, qw, ⟨kind, user0, id, st, pr, ttl, Au, cu, us0⟩, by_⟩ := q
                obtain ⟨d, hd⟩ := Int.eq_ofNat_of_zero_le (bounds_u8 HG.out.do_).1
                simp only at hd
                subst hd
                have hd255 := (bounds_u8 HG.out.do_).2
                have hby := bounds_u64 HG.out.by_
                simp only at c0 c1 c2 c3 c4 c5 c6 c7 c8 c9 hd255 hby
                obtain ⟨p, hp⟩ : ∃ p, a.pres user = p := ⟨_, rfl⟩
                obtain ⟨s0, s1, s2⟩ := p
                go_wp2_with fail
                have HB0 := (Below.refl wr.heap.size wr).alloc (Nat.le_refl _) (.cells #[.int .u8 (d : Int), .int .i64 qw, .int .i64 kind, .string user0, .int .i64 id, .int .i64 st, .int .i64 pr, .int .u64 ttl, .slice Au us0.length cu, .int .u64 by_] 39)
                have HX := Lib.hid (Is.new wr 39 #[.int .u8 (d : Int), .int .i64 qw, .int .i64 kind, .string user0, .int .i64 id, .int .i64 st, .int .i64 pr, .int .u64 ttl, .slice Au us0.length cu, .int .u64 by_] rfl)
                have H1 := Lib.hid (H.out.below HB0)
                have IN1 := Lib.hid (HIN.out.below HB0)
                clear HB0
                generalize (wr.alloc (.cells #[.int .u8 (d : Int), .int .i64 qw, .int .i64 kind, .string user0, .int .i64 id, .int .i64 st, .int .i64 pr, .int .u64 ttl, .slice Au us0.length cu, .int .u64 by_] 39)) = w5 at *
                refine (Mod.presence H1.out.tab HO.out (by omega) user HU.out hp).mono ?_
                rintro e w6 ⟨rfl, b6⟩
                have H6 := Lib.hid (H1.out.below b6)
                have HX6 := Lib.hid (HX.out.below b6 HX.out.lt)
                have IN6 := Lib.hid (IN1.out.below b6)
                have l56 := Nat.le_trans (Nat.le_of_lt HX.out.lt) b6.size
                have HSl : Hid (∀ x, S x → x < wr.heap.size) := fun x hx => (H.out.tab.ok x hx).2
                clear b6 H1 HX IN1 H
                have HW7 := Lib.hid (Is.new w6 57 #[.int .i64 s0, .int .i64 s1, .int .i64 s2] rfl)
                have bx := (Below.refl w6.heap.size w6).alloc (Nat.le_refl _) (.cells #[.int .i64 s0, .int .i64 s1, .int .i64 s2] 57)
                have H7 := Lib.hid (H6.out.below bx)
                have HX7 := Lib.hid (HX6.out.below bx HX6.out.lt)
                have IN7 := Lib.hid (IN6.out.below bx)
                have lxx := HX6.out.lt
                have x0 : w6.cell? ⟨wr.heap.size, 0, none⟩ = some (.int .u8 (d : Int)) := HX6.out.cell' rfl
                have x1 : w6.cell? ⟨wr.heap.size, 1, none⟩ = some (.int .i64 qw) := HX6.out.cell' rfl
                have x2 : w6.cell? ⟨wr.heap.size, 2, none⟩ = some (.int .i64 kind) := HX6.out.cell' rfl
                have x3 : w6.cell? ⟨wr.heap.size, 3, none⟩ = some (.string user0) := HX6.out.cell' rfl
                have x4 : w6.cell? ⟨wr.heap.size, 4, none⟩ = some (.int .i64 id) := HX6.out.cell' rfl
                have x5 : w6.cell? ⟨wr.heap.size, 5, none⟩ = some (.int .i64 st) := HX6.out.cell' rfl
                have x6 : w6.cell? ⟨wr.heap.size, 6, none⟩ = some (.int .i64 pr) := HX6.out.cell' rfl
                have x7 : w6.cell? ⟨wr.heap.size, 7, none⟩ = some (.int .u64 ttl) := HX6.out.cell' rfl
                have x8 : w6.cell? ⟨wr.heap.size, 8, none⟩ = some (.slice Au us0.length cu) := HX6.out.cell' rfl
                have x9 : w6.cell? ⟨wr.heap.size, 9, none⟩ = some (.int .u64 by_) := HX6.out.cell' rfl
                go_wp2_with fail
                generalize w6.alloc (.cells #[.int .i64 s0, .int .i64 s1, .int .i64 s2] 57) = w7 at *
                clear bx
                clear H6 HX6 IN6
                obtain ⟨v6, hv6⟩ : ∃ n, w6.heap.size = n := ⟨_, rfl⟩
                rw [hv6] at HW7 l56 lxx
                try rw [hv6]
                clear hv6
                obtain ⟨v5, hv5⟩ : ∃ n, wr.heap.size = n := ⟨_, rfl⟩
                rw [hv5] at HX7 l56 lxx lb HSl ⊢
                clear hv5
                clear x0 x1 x2 x3 x4 x5 x6 x7 x8 x9
                refine (befalls ⟨(d : Int), qw, ⟨kind, user0, id, st, pr, ttl, Au, cu, us0⟩, by_⟩ H7.out.tab HO.out (by omega) H7.out.bel.size IN7.out ⟨Int.natCast_nonneg _, hd255⟩ hby).mono ?_
                have HP := Lib.hid (closed_pres HO.out HC.out ⟨(d : Int), qw, ⟨kind, user0, id, st, pr, ttl, Au, cu, us0⟩, by_⟩ user)
                have HV := Lib.hid (act_reply HC.out ⟨(d : Int), qw, ⟨kind, user0, id, st, pr, ttl, Au, cu, us0⟩, by_⟩)
                have OA := Lib.hid (act_ok HO.out ⟨(d : Int), qw, ⟨kind, user0, id, st, pr, ttl, Au, cu, us0⟩, by_⟩ hby)
                generalize a.act ⟨(d : Int), qw, ⟨kind, user0, id, st, pr, ttl, Au, cu, us0⟩, by_⟩ = ar at *
                rintro e w8 ⟨A1, c1', A2, c2', rfl, _, _, S', hT, hG⟩
                have H8 := Lib.hid (H7.out.gone hT hG)
                have HX8 := Lib.hid (hG.is HX7.out (fun hx => by have := HSl.out _ hx; omega))
                have HW8 := Lib.hid (hG.is HW7.out (fun hx => by have := HSl.out _ hx; omega))
                have IN8 : Hid (OpW.In ⟨kind, user0, id, st, pr, ttl, Au, cu, us0⟩ w8) := (HG.out.op.in_).below H8.out.bel
                clear hT hG H7 HX7 HW7 IN7
                have bx := (Below.refl w8.heap.size w8).alloc (Nat.le_refl _) (.cells #[.int .i64 ar.2.err, .slice A1 ar.2.vals.length c1', .slice A2 ar.2.evs.length c2', .bool ar.2.lost] 43)
                have HR9 := Lib.hid (Is.new w8 43 #[.int .i64 ar.2.err, .slice A1 ar.2.vals.length c1', .slice A2 ar.2.evs.length c2', .bool ar.2.lost] rfl)
                have H9 := Lib.hid (H8.out.below bx)
                have HX9 := Lib.hid (HX8.out.below bx HX8.out.lt)
                have HW9 := Lib.hid (HW8.out.below bx HW8.out.lt)
                have IN9 := Lib.hid (IN8.out.below bx)
                have l8x := Nat.lt_of_lt_of_le HX8.out.lt bx.size
                have l8w := Nat.lt_of_lt_of_le HW8.out.lt bx.size
                clear bx H8 HX8 HW8 IN8
                go_wp2_with fail
                generalize w8.alloc (.cells #[.int .i64 ar.2.err, .slice A1 ar.2.vals.length c1', .slice A2 ar.2.evs.length c2', .bool ar.2.lost] 43) = w9 at *
                obtain ⟨v8, hv8⟩ : ∃ n, w8.heap.size = n := ⟨_, rfl⟩
                rw [hv8] at HR9
                try rw [hv8]
                clear hv8
                have x0 : w9.cell? ⟨v5, 0, none⟩ = some (.int .u8 (d : Int)) := HX9.out.cell' rfl
                have y0 : w9.cell? ⟨v6, 0, none⟩ = some (.int .i64 s0) := HW9.out.cell' rfl
                have y1 : w9.cell? ⟨v6, 1, none⟩ = some (.int .i64 s1) := HW9.out.cell' rfl
                have y2 : w9.cell? ⟨v6, 2, none⟩ = some (.int .i64 s2) := HW9.out.cell' rfl
                have htm : (d : Int).tmod 3 = (d : Int) % 3 := Int.tmod_eq_emod_of_nonneg (Int.natCast_nonneg d)
                by_cases h1 : d % 3 = 1
                · have e1 : ((d : Int) % 3 != 1) = false := by simp; omega
                  have e0 : ((d : Int) % 3 != 0) = true := by simp; omega
                  refine wp_region_held_drew (S := fun w' => w'.cell? ⟨v5, 0, none⟩ = some (.int .u8 (d : Int)) ∧ w'.cell? ⟨v6, 0, none⟩ = some (.int .i64 s0) ∧ w'.cell? ⟨v6, 1, none⟩ = some (.int .i64 s1) ∧ w'.cell? ⟨v6, 2, none⟩ = some (.int .i64 s2)) (by kernel_rfl) ⟨x0, y0, y1, y2⟩ (fun hS0 => ?_)
                  refine wpAnyH_take (i := 0) (oi := { dst := some 73, op := .fieldAddr 39 (.tmp 11) 0, type := _, pos := _, after := _, guard := _ }) (v := .pointer (some ⟨v5, 0, none⟩)) rfl (by kernel_rfl) (by kernel_rfl) (by kernel_rfl) (fun _ _ _ h => h) (Or.inl ⟨by rfl, ?_⟩) hS0 ?_
                  · intro w' hSw
                    go_simp
                  try simp only [Act.put, List.setIfInBounds_toArray, List.set_cons_zero, List.set_cons_succ]
                  refine wpAnyH_take (i := 1) (oi := { dst := some 74, op := .load 5 (.tmp 73), type := _, pos := _, after := _, guard := _ }) (v := .int .u8 (d : Int)) rfl (by kernel_rfl) (by kernel_rfl) (by kernel_rfl) (fun _ _ _ h => h) (Or.inl ⟨by rfl, ?_⟩) hS0 ?_
                  · intro w' hSw
                    obtain ⟨s0', s1', s2', s3'⟩ := hSw
                    go_simp
                  try simp only [Act.put, List.setIfInBounds_toArray, List.set_cons_zero, List.set_cons_succ]
                  refine wpAnyH_take (i := 2) (oi := { dst := some 75, op := .binOp .rem 5 (.tmp 74) (.const (.int .u8 3)) 5, type := _, pos := _, after := _, guard := _ }) (v := .int .u8 ((d : Int) % 3)) rfl (by kernel_rfl) (by kernel_rfl) (by kernel_rfl) (fun _ _ _ h => h) (Or.inl ⟨by rfl, ?_⟩) hS0 ?_
                  · intro w' hSw
                    go_simp
                  try simp only [Act.put, List.setIfInBounds_toArray, List.set_cons_zero, List.set_cons_succ]
                  refine wpAnyH_take (i := 3) (oi := { dst := some 76, op := .binOp .neq 5 (.tmp 75) (.const (.int .u8 1)) 5, type := _, pos := _, after := _, guard := _ }) (v := .bool false) rfl (by kernel_rfl) (by kernel_rfl) (by kernel_rfl) (fun _ _ _ h => h) (Or.inl ⟨by rfl, ?_⟩) hS0 ?_
                  · intro w' hSw
                    go_simp
                  try simp only [Act.put, List.setIfInBounds_toArray, List.set_cons_zero, List.set_cons_succ]
                  refine wpAnyH_take (i := 4) (oi := { dst := some 77, op := .move (.tmp 76), type := _, pos := _, after := _, guard := _ }) (v := .bool false) rfl (by kernel_rfl) (by kernel_rfl) (by kernel_rfl) (fun _ _ _ h => h) (Or.inl ⟨by rfl, ?_⟩) hS0 ?_
                  · intro w' hSw
                    go_simp
                  try simp only [Act.put, List.setIfInBounds_toArray, List.set_cons_zero, List.set_cons_succ]
                  refine wpAnyH_take (i := 5) (oi := { dst := some 78, op := .move (.tmp 7), type := _, pos := _, after := _, guard := _ }) (v := undef) rfl (by kernel_rfl) (by kernel_rfl) (by kernel_rfl) (fun _ _ _ h => h) (Or.inr ⟨by rfl, rfl⟩) hS0 ?_
                  try simp only [Act.put, List.setIfInBounds_toArray, List.set_cons_zero, List.set_cons_succ]
                  refine wpAnyH_take (i := 6) (oi := { dst := some 79, op := .move (.tmp 2), type := _, pos := _, after := _, guard := _ }) (v := undef) rfl (by kernel_rfl) (by kernel_rfl) (by kernel_rfl) (fun _ _ _ h => h) (Or.inr ⟨by rfl, rfl⟩) hS0 ?_
                  try simp only [Act.put, List.setIfInBounds_toArray, List.set_cons_zero, List.set_cons_succ]
                  refine wpAnyH_take (i := 7) (oi := { dst := some 80, op := .call { callee := .value (.func 23), args := #[.tmp 78, .tmp 79], argTypes := _ }, type := _, pos := _, after := _, guard := _ }) (v := undef) rfl (by kernel_rfl) (by kernel_rfl) (by kernel_rfl) (fun _ _ _ h => h) (Or.inr ⟨by rfl, rfl⟩) hS0 ?_
                  try simp only [Act.put, List.setIfInBounds_toArray, List.set_cons_zero, List.set_cons_succ]
                  refine wpAnyH_take (i := 8) (oi := { dst := some 81, op := .load 57 (.tmp 12), type := _, pos := _, after := _, guard := _ }) (v := undef) rfl (by kernel_rfl) (by kernel_rfl) (by kernel_rfl) (fun _ _ _ h => h) (Or.inr ⟨by rfl, rfl⟩) hS0 ?_
                  try simp only [Act.put, List.setIfInBounds_toArray, List.set_cons_zero, List.set_cons_succ]
                  refine wpAnyH_take (i := 9) (oi := { dst := some 82, op := .binOp .neq 57 (.tmp 80) (.tmp 81) 57, type := _, pos := _, after := _, guard := _ }) (v := undef) rfl (by kernel_rfl) (by kernel_rfl) (by kernel_rfl) (fun _ _ _ h => h) (Or.inr ⟨by rfl, rfl⟩) hS0 ?_
                  try simp only [Act.put, List.setIfInBounds_toArray, List.set_cons_zero, List.set_cons_succ]
                  refine wpAnyH_take (i := 10) (oi := { dst := some 83, op := .pick (.tmp 77) (.tmp 82) (.const (.bool false)), type := _, pos := _, after := _, guard := _ }) (v := .bool false) rfl (by kernel_rfl) (by kernel_rfl) (by kernel_rfl) (fun _ _ _ h => h) (Or.inl ⟨by rfl, ?_⟩) hS0 ?_
                  · intro w' hSw
                    go_simp
                  try simp only [Act.put, List.setIfInBounds_toArray, List.set_cons_zero, List.set_cons_succ]
                  refine wpAnyH_done (by kernel_rfl) ?_ _
                  have x0' : w9.drew.cell? ⟨v5, 0, none⟩ = some (.int .u8 (d : Int)) := x0
                  have H10 := Lib.hid (H9.out.below (Law.below_drewN (Below.refl _ w9) 1))
                  go_wp2_with fail
                  go_roundw
                  case rel => exact ⟨j + 1, S', by omega, by go_num, by rw [HR.out]; exact H10.out⟩
                  case measure => simp [intOf]; omega
                · have e1 : ((d : Int) % 3 != 1) = true := by simp; omega
                  have HP2 : Hid (ar.1.pres user = a.pres user) := HP.out (by show ¬ (d : Int) % 3 = 1; omega)
                  refine wp_region_held_drew (S := fun w' => w'.cell? ⟨v5, 0, none⟩ = some (.int .u8 (d : Int)) ∧ w'.cell? ⟨v6, 0, none⟩ = some (.int .i64 s0) ∧ w'.cell? ⟨v6, 1, none⟩ = some (.int .i64 s1) ∧ w'.cell? ⟨v6, 2, none⟩ = some (.int .i64 s2)) (by kernel_rfl) ⟨x0, y0, y1, y2⟩ (fun hS0 => ?_)
                  refine wpAnyH_take (i := 0) (oi := { dst := some 73, op := .fieldAddr 39 (.tmp 11) 0, type := _, pos := _, after := _, guard := _ }) (v := .pointer (some ⟨v5, 0, none⟩)) rfl (by kernel_rfl) (by kernel_rfl) (by kernel_rfl) (fun _ _ _ h => h) (Or.inl ⟨by rfl, ?_⟩) hS0 ?_
                  · intro w' hSw
                    go_simp
                  try simp only [Act.put, List.setIfInBounds_toArray, List.set_cons_zero, List.set_cons_succ]
                  refine wpAnyH_take (i := 1) (oi := { dst := some 74, op := .load 5 (.tmp 73), type := _, pos := _, after := _, guard := _ }) (v := .int .u8 (d : Int)) rfl (by kernel_rfl) (by kernel_rfl) (by kernel_rfl) (fun _ _ _ h => h) (Or.inl ⟨by rfl, ?_⟩) hS0 ?_
                  · intro w' hSw
                    obtain ⟨s0', s1', s2', s3'⟩ := hSw
                    go_simp
                  try simp only [Act.put, List.setIfInBounds_toArray, List.set_cons_zero, List.set_cons_succ]
                  refine wpAnyH_take (i := 2) (oi := { dst := some 75, op := .binOp .rem 5 (.tmp 74) (.const (.int .u8 3)) 5, type := _, pos := _, after := _, guard := _ }) (v := .int .u8 ((d : Int) % 3)) rfl (by kernel_rfl) (by kernel_rfl) (by kernel_rfl) (fun _ _ _ h => h) (Or.inl ⟨by rfl, ?_⟩) hS0 ?_
                  · intro w' hSw
                    go_simp
                  try simp only [Act.put, List.setIfInBounds_toArray, List.set_cons_zero, List.set_cons_succ]
                  refine wpAnyH_take (i := 3) (oi := { dst := some 76, op := .binOp .neq 5 (.tmp 75) (.const (.int .u8 1)) 5, type := _, pos := _, after := _, guard := _ }) (v := .bool true) rfl (by kernel_rfl) (by kernel_rfl) (by kernel_rfl) (fun _ _ _ h => h) (Or.inl ⟨by rfl, ?_⟩) hS0 ?_
                  · intro w' hSw
                    go_simp
                  try simp only [Act.put, List.setIfInBounds_toArray, List.set_cons_zero, List.set_cons_succ]
                  refine wpAnyH_take (i := 4) (oi := { dst := some 77, op := .move (.tmp 76), type := _, pos := _, after := _, guard := _ }) (v := .bool true) rfl (by kernel_rfl) (by kernel_rfl) (by kernel_rfl) (fun _ _ _ h => h) (Or.inl ⟨by rfl, ?_⟩) hS0 ?_
                  · intro w' hSw
                    go_simp
                  try simp only [Act.put, List.setIfInBounds_toArray, List.set_cons_zero, List.set_cons_succ]
                  refine wpAnyH_take (i := 5) (oi := { dst := some 78, op := .move (.tmp 7), type := _, pos := _, after := _, guard := _ }) (v := .pointer (some ⟨m, 0, none⟩)) rfl (by kernel_rfl) (by kernel_rfl) (by kernel_rfl) (fun _ _ _ h => h) (Or.inl ⟨by rfl, ?_⟩) hS0 ?_
                  · intro w' hSw
                    go_simp
                  try simp only [Act.put, List.setIfInBounds_toArray, List.set_cons_zero, List.set_cons_succ]
                  refine wpAnyH_take (i := 6) (oi := { dst := some 79, op := .move (.tmp 2), type := _, pos := _, after := _, guard := _ }) (v := .string user) rfl (by kernel_rfl) (by kernel_rfl) (by kernel_rfl) (fun _ _ _ h => h) (Or.inl ⟨by rfl, ?_⟩) hS0 ?_
                  · intro w' hSw
                    go_simp
                  try simp only [Act.put, List.setIfInBounds_toArray, List.set_cons_zero, List.set_cons_succ]
                  refine wpAnyH_take (i := 8) (oi := { dst := some 81, op := .load 57 (.tmp 12), type := _, pos := _, after := _, guard := _ }) (v := .agg #[.int .i64 s0, .int .i64 s1, .int .i64 s2]) rfl (by kernel_rfl) (by kernel_rfl) (by kernel_rfl) (fun _ _ _ h => h) (Or.inl ⟨by rfl, ?_⟩) hS0 ?_
                  · intro w' hSw
                    obtain ⟨s0', s1', s2', s3'⟩ := hSw
                    go_simp
                  try simp only [Act.put, List.setIfInBounds_toArray, List.set_cons_zero, List.set_cons_succ]
                  refine wpAnyH_ready (rs := [7]) (by kernel_rfl) (by simp) ?_
                  refine AllReadyH.cons (o := { dst := some 80, op := .call { callee := .value (.func 23), args := #[.tmp 78, .tmp 79], argTypes := _ }, type := _, pos := _, after := _, guard := _ }) rfl (fun K hK => ?_) AllReadyH.nil
                  go_simp
                  refine Calls.mono (Mod.presence (H9.out.tab.below (Law.below_drewN (Below.refl _ w9) 1)) OA.out (by omega) user HU.out (HP2.out.trans hp)) ?_
                  rintro e w10 ⟨rfl, b9d⟩
                  have b9 : Below w9.heap.size w9 w10 := (Law.below_drewN (Below.refl _ w9) 1).trans b9d
                  have H10 := Lib.hid (H9.out.below b9)
                  have HR10 := Lib.hid (HR9.out.below b9 HR9.out.lt)
                  have HX10 := Lib.hid (HX9.out.below b9 HX9.out.lt)
                  have IN10 := Lib.hid (IN9.out.below b9)
                  clear H9 HR9 HX9 IN9 HW9
                  go_wp2_with fail
                  refine hK.out _ _ ⟨(b9.cell (p := ⟨v5, 0, none⟩) (show v5 < w9.heap.size by omega)).trans x0, (b9.cell (p := ⟨v6, 0, none⟩) (show v6 < w9.heap.size by omega)).trans y0, (b9.cell (p := ⟨v6, 1, none⟩) (show v6 < w9.heap.size by omega)).trans y1, (b9.cell (p := ⟨v6, 2, none⟩) (show v6 < w9.heap.size by omega)).trans y2⟩ (fun hS1 => ?_)
                  clear hK K
                  try simp only [Act.put, List.setIfInBounds_toArray, List.set_cons_zero, List.set_cons_succ]
                  refine wpAnyH_take (i := 9) (oi := { dst := some 82, op := .binOp .neq 57 (.tmp 80) (.tmp 81) 57, type := _, pos := _, after := _, guard := _ }) (v := .bool false) rfl (by kernel_rfl) (by kernel_rfl) (by kernel_rfl) (fun _ _ _ h => h) (Or.inl ⟨by rfl, ?_⟩) hS1 ?_
                  · intro w' hSw
                    go_simp
                  try simp only [Act.put, List.setIfInBounds_toArray, List.set_cons_zero, List.set_cons_succ]
                  refine wpAnyH_take (i := 10) (oi := { dst := some 83, op := .pick (.tmp 77) (.tmp 82) (.const (.bool false)), type := _, pos := _, after := _, guard := _ }) (v := .bool false) rfl (by kernel_rfl) (by kernel_rfl) (by kernel_rfl) (fun _ _ _ h => h) (Or.inl ⟨by rfl, ?_⟩) hS1 ?_
                  · intro w' hSw
                    go_simp
                  try simp only [Act.put, List.setIfInBounds_toArray, List.set_cons_zero, List.set_cons_succ]
                  refine wpAnyH_done (by kernel_rfl) ?_ _
                  have x0 : w10.cell? ⟨v5, 0, none⟩ = some (.int .u8 (d : Int)) := HX10.out.cell' rfl
                  clear y0 y1 y2
                  have lx := HX10.out.lt
                  by_cases h0 : d % 3 = 0
                  · have e0 : ((d : Int) % 3 != 0) = false := by simp; omega
                    obtain ⟨hv, he⟩ := HV.out (by show (d : Int) % 3 = 0; omega)
                    rw [hv, he] at HR10
                    simp only [List.length_nil] at HR10
                    cases hg : goodB ⟨kind, user0, id, st, pr, ttl, Au, cu, us0⟩ with
                    | false =>
                      have hE : shutE qw ⟨kind, user0, id, st, pr, ttl, Au, cu, us0⟩ = 1 := by unfold shutE; rw [if_neg (fun h => by have h2 := h.1; rw [hg] at h2; cases h2)]
                      rw [hE] at HR10
                      have x1 : w10.cell? ⟨v5, 1, none⟩ = some (.int .i64 qw) := HX10.out.cell' rfl
                      have x2 : w10.cell? ⟨v5, 2, none⟩ = some (.int .i64 kind) := HX10.out.cell' rfl
                      have x3 : w10.cell? ⟨v5, 3, none⟩ = some (.string user0) := HX10.out.cell' rfl
                      have x4 : w10.cell? ⟨v5, 4, none⟩ = some (.int .i64 id) := HX10.out.cell' rfl
                      have x5 : w10.cell? ⟨v5, 5, none⟩ = some (.int .i64 st) := HX10.out.cell' rfl
                      have x6 : w10.cell? ⟨v5, 6, none⟩ = some (.int .i64 pr) := HX10.out.cell' rfl
                      have x7 : w10.cell? ⟨v5, 7, none⟩ = some (.int .u64 ttl) := HX10.out.cell' rfl
                      have x8 : w10.cell? ⟨v5, 8, none⟩ = some (.slice Au us0.length cu) := HX10.out.cell' rfl
                      go_wp2_with fail
                      refine (bad ⟨kind, user0, id, st, pr, ttl, Au, cu, us0⟩ IN10.out (r := true) (by rw [hg]; rfl)).mono ?_
                      rintro e w11 ⟨rfl, b11⟩
                      have H11 := Lib.hid (H10.out.below b11)
                      have HR11 := Lib.hid (HR10.out.below b11 HR10.out.lt)
                      have HX11 := Lib.hid (HX10.out.below b11 HX10.out.lt)
                      clear b11 H10 HR10 HX10 x0 x1 x2 x3 x4 x5 x6 x7 x8 lx
                      have z1 : w11.cell? ⟨v5, 1, none⟩ = some (.int .i64 qw) := HX11.out.cell' rfl
                      have z2 : w11.cell? ⟨v5, 2, none⟩ = some (.int .i64 kind) := HX11.out.cell' rfl
                      have r0 : w11.cell? ⟨v8, 0, none⟩ = some (.int .i64 1) := HR11.out.cell' rfl
                      have r1 : w11.cell? ⟨v8, 1, none⟩ = some (.slice A1 0 c1') := HR11.out.cell' rfl
                      have lz := HX11.out.lt
                      have lr := HR11.out.lt
                      go_wp2_with fail
                      go_roundw
                      case rel => exact ⟨j + 1, S', by omega, by go_num, by rw [HR.out]; exact H11.out⟩
                      case measure => simp [intOf]; omega
                    | true =>
                      by_cases hw0 : qw < 0
                      · have f0 : decide (qw < 0) = true := decide_eq_true hw0
                        have hE : shutE qw ⟨kind, user0, id, st, pr, ttl, Au, cu, us0⟩ = 1 := by unfold shutE; rw [if_neg (fun h => by have h2 := h.2.1; omega)]
                        rw [hE] at HR10
                        have x1 : w10.cell? ⟨v5, 1, none⟩ = some (.int .i64 qw) := HX10.out.cell' rfl
                        have x2 : w10.cell? ⟨v5, 2, none⟩ = some (.int .i64 kind) := HX10.out.cell' rfl
                        have x3 : w10.cell? ⟨v5, 3, none⟩ = some (.string user0) := HX10.out.cell' rfl
                        have x4 : w10.cell? ⟨v5, 4, none⟩ = some (.int .i64 id) := HX10.out.cell' rfl
                        have x5 : w10.cell? ⟨v5, 5, none⟩ = some (.int .i64 st) := HX10.out.cell' rfl
                        have x6 : w10.cell? ⟨v5, 6, none⟩ = some (.int .i64 pr) := HX10.out.cell' rfl
                        have x7 : w10.cell? ⟨v5, 7, none⟩ = some (.int .u64 ttl) := HX10.out.cell' rfl
                        have x8 : w10.cell? ⟨v5, 8, none⟩ = some (.slice Au us0.length cu) := HX10.out.cell' rfl
                        go_wp2_with fail
                        refine (bad ⟨kind, user0, id, st, pr, ttl, Au, cu, us0⟩ IN10.out (r := false) (by rw [hg]; rfl)).mono ?_
                        rintro e w11 ⟨rfl, b11⟩
                        have H11 := Lib.hid (H10.out.below b11)
                        have HR11 := Lib.hid (HR10.out.below b11 HR10.out.lt)
                        have HX11 := Lib.hid (HX10.out.below b11 HX10.out.lt)
                        clear b11 H10 HR10 HX10 x0 x1 x2 x3 x4 x5 x6 x7 x8 lx
                        have z1 : w11.cell? ⟨v5, 1, none⟩ = some (.int .i64 qw) := HX11.out.cell' rfl
                        have z2 : w11.cell? ⟨v5, 2, none⟩ = some (.int .i64 kind) := HX11.out.cell' rfl
                        have r0 : w11.cell? ⟨v8, 0, none⟩ = some (.int .i64 1) := HR11.out.cell' rfl
                        have r1 : w11.cell? ⟨v8, 1, none⟩ = some (.slice A1 0 c1') := HR11.out.cell' rfl
                        have lz := HX11.out.lt
                        have lr := HR11.out.lt
                        go_wp2_with fail
                        go_roundw
                        case rel => exact ⟨j + 1, S', by omega, by go_num, by rw [HR.out]; exact H11.out⟩
                        case measure => simp [intOf]; omega
                      · have f0 : decide (qw < 0) = false := decide_eq_false hw0
                        by_cases hw7 : 7 < qw
                        · have f7 : decide (7 < qw) = true := decide_eq_true hw7
                          have hE : shutE qw ⟨kind, user0, id, st, pr, ttl, Au, cu, us0⟩ = 1 := by unfold shutE; rw [if_neg (fun h => by have h2 := h.2.2; omega)]
                          rw [hE] at HR10
                          have x1 : w10.cell? ⟨v5, 1, none⟩ = some (.int .i64 qw) := HX10.out.cell' rfl
                          have x2 : w10.cell? ⟨v5, 2, none⟩ = some (.int .i64 kind) := HX10.out.cell' rfl
                          have x3 : w10.cell? ⟨v5, 3, none⟩ = some (.string user0) := HX10.out.cell' rfl
                          have x4 : w10.cell? ⟨v5, 4, none⟩ = some (.int .i64 id) := HX10.out.cell' rfl
                          have x5 : w10.cell? ⟨v5, 5, none⟩ = some (.int .i64 st) := HX10.out.cell' rfl
                          have x6 : w10.cell? ⟨v5, 6, none⟩ = some (.int .i64 pr) := HX10.out.cell' rfl
                          have x7 : w10.cell? ⟨v5, 7, none⟩ = some (.int .u64 ttl) := HX10.out.cell' rfl
                          have x8 : w10.cell? ⟨v5, 8, none⟩ = some (.slice Au us0.length cu) := HX10.out.cell' rfl
                          go_wp2_with fail
                          refine (bad ⟨kind, user0, id, st, pr, ttl, Au, cu, us0⟩ IN10.out (r := false) (by rw [hg]; rfl)).mono ?_
                          rintro e w11 ⟨rfl, b11⟩
                          have H11 := Lib.hid (H10.out.below b11)
                          have HR11 := Lib.hid (HR10.out.below b11 HR10.out.lt)
                          have HX11 := Lib.hid (HX10.out.below b11 HX10.out.lt)
                          clear b11 H10 HR10 HX10 x0 x1 x2 x3 x4 x5 x6 x7 x8 lx
                          have z1 : w11.cell? ⟨v5, 1, none⟩ = some (.int .i64 qw) := HX11.out.cell' rfl
                          have z2 : w11.cell? ⟨v5, 2, none⟩ = some (.int .i64 kind) := HX11.out.cell' rfl
                          have r0 : w11.cell? ⟨v8, 0, none⟩ = some (.int .i64 1) := HR11.out.cell' rfl
                          have r1 : w11.cell? ⟨v8, 1, none⟩ = some (.slice A1 0 c1') := HR11.out.cell' rfl
                          have lz := HX11.out.lt
                          have lr := HR11.out.lt
                          go_wp2_with fail
                          go_roundw
                          case rel => exact ⟨j + 1, S', by omega, by go_num, by rw [HR.out]; exact H11.out⟩
                          case measure => simp [intOf]; omega
                        · have f7 : decide (7 < qw) = false := decide_eq_false hw7
                          by_cases hk : kind = 8
                          · have f8 : (kind == 8) = true := by simpa using hk
                            have hE : shutE qw ⟨kind, user0, id, st, pr, ttl, Au, cu, us0⟩ = 0 := by unfold shutE; rw [if_pos ⟨hg, by omega⟩, if_pos hk]
                            clear hk
                            rw [hE] at HR10
                            have x1 : w10.cell? ⟨v5, 1, none⟩ = some (.int .i64 qw) := HX10.out.cell' rfl
                            have x2 : w10.cell? ⟨v5, 2, none⟩ = some (.int .i64 kind) := HX10.out.cell' rfl
                            have x3 : w10.cell? ⟨v5, 3, none⟩ = some (.string user0) := HX10.out.cell' rfl
                            have x4 : w10.cell? ⟨v5, 4, none⟩ = some (.int .i64 id) := HX10.out.cell' rfl
                            have x5 : w10.cell? ⟨v5, 5, none⟩ = some (.int .i64 st) := HX10.out.cell' rfl
                            have x6 : w10.cell? ⟨v5, 6, none⟩ = some (.int .i64 pr) := HX10.out.cell' rfl
                            have x7 : w10.cell? ⟨v5, 7, none⟩ = some (.int .u64 ttl) := HX10.out.cell' rfl
                            have x8 : w10.cell? ⟨v5, 8, none⟩ = some (.slice Au us0.length cu) := HX10.out.cell' rfl
                            go_wp2_with fail
                            refine (bad ⟨kind, user0, id, st, pr, ttl, Au, cu, us0⟩ IN10.out (r := false) (by rw [hg]; rfl)).mono ?_
                            rintro e w11 ⟨rfl, b11⟩
                            have H11 := Lib.hid (H10.out.below b11)
                            have HR11 := Lib.hid (HR10.out.below b11 HR10.out.lt)
                            have HX11 := Lib.hid (HX10.out.below b11 HX10.out.lt)
                            clear b11 H10 HR10 HX10 x0 x1 x2 x3 x4 x5 x6 x7 x8 lx
                            have z1 : w11.cell? ⟨v5, 1, none⟩ = some (.int .i64 qw) := HX11.out.cell' rfl
                            have z2 : w11.cell? ⟨v5, 2, none⟩ = some (.int .i64 kind) := HX11.out.cell' rfl
                            have r0 : w11.cell? ⟨v8, 0, none⟩ = some (.int .i64 0) := HR11.out.cell' rfl
                            have r1 : w11.cell? ⟨v8, 1, none⟩ = some (.slice A1 0 c1') := HR11.out.cell' rfl
                            have lz := HX11.out.lt
                            have lr := HR11.out.lt
                            go_wp2_with fail
                            go_roundw
                            case rel => exact ⟨j + 1, S', by omega, by go_num, by rw [HR.out]; exact H11.out⟩
                            case measure => simp [intOf]; omega
                          · have f8 : (kind == 8) = false := by simpa using hk
                            have hE : shutE qw ⟨kind, user0, id, st, pr, ttl, Au, cu, us0⟩ = 5 := by unfold shutE; rw [if_pos ⟨hg, by omega⟩, if_neg hk]
                            rw [hE] at HR10
                            have x1 : w10.cell? ⟨v5, 1, none⟩ = some (.int .i64 qw) := HX10.out.cell' rfl
                            have x2 : w10.cell? ⟨v5, 2, none⟩ = some (.int .i64 kind) := HX10.out.cell' rfl
                            have x3 : w10.cell? ⟨v5, 3, none⟩ = some (.string user0) := HX10.out.cell' rfl
                            have x4 : w10.cell? ⟨v5, 4, none⟩ = some (.int .i64 id) := HX10.out.cell' rfl
                            have x5 : w10.cell? ⟨v5, 5, none⟩ = some (.int .i64 st) := HX10.out.cell' rfl
                            have x6 : w10.cell? ⟨v5, 6, none⟩ = some (.int .i64 pr) := HX10.out.cell' rfl
                            have x7 : w10.cell? ⟨v5, 7, none⟩ = some (.int .u64 ttl) := HX10.out.cell' rfl
                            have x8 : w10.cell? ⟨v5, 8, none⟩ = some (.slice Au us0.length cu) := HX10.out.cell' rfl
                            go_wp2_with fail
                            refine (bad ⟨kind, user0, id, st, pr, ttl, Au, cu, us0⟩ IN10.out (r := false) (by rw [hg]; rfl)).mono ?_
                            rintro e w11 ⟨rfl, b11⟩
                            have H11 := Lib.hid (H10.out.below b11)
                            have HR11 := Lib.hid (HR10.out.below b11 HR10.out.lt)
                            have HX11 := Lib.hid (HX10.out.below b11 HX10.out.lt)
                            clear b11 H10 HR10 HX10 x0 x1 x2 x3 x4 x5 x6 x7 x8 lx
                            have z1 : w11.cell? ⟨v5, 1, none⟩ = some (.int .i64 qw) := HX11.out.cell' rfl
                            have z2 : w11.cell? ⟨v5, 2, none⟩ = some (.int .i64 kind) := HX11.out.cell' rfl
                            have r0 : w11.cell? ⟨v8, 0, none⟩ = some (.int .i64 5) := HR11.out.cell' rfl
                            have r1 : w11.cell? ⟨v8, 1, none⟩ = some (.slice A1 0 c1') := HR11.out.cell' rfl
                            have lz := HX11.out.lt
                            have lr := HR11.out.lt
                            go_wp2_with fail
                            go_roundw
                            case rel => exact ⟨j + 1, S', by omega, by go_num, by rw [HR.out]; exact H11.out⟩
                            case measure => simp [intOf]; omega
                  · have e0 : ((d : Int) % 3 != 0) = true := by simp; omega
                    go_wp2_with fail
                    go_roundw
                    case rel => exact ⟨j + 1, S', by omega, by go_num, by rw [HR.out]; exact H10.out⟩
                    case measure => simp [intOf]; omega
              · have d1 : decide ((j : Int) < (ms.length : Int)) = false := by simp; omega
                go_wp2_with fail
                refine (time H.out.tab).mono ?_
                rintro e w5 ⟨rfl, b5⟩
                have H5 := Lib.hid (H.out.below b5)
                rw [HC.out]
                clear b5
                go_wp2_with fail
                go_ret
                exact ⟨rfl, H5.out.bel⟩

set_option maxRecDepth 100000 in
theorem lifted (os : Os) (started : os.Started) (H : Type) (enc : TypeId × Value → H) :
    ReturnsInHanded {} Tryz.checked os 7 .any (Rows.modelClosedSpec.pre6 enc Tryz.prog Tryz.f7 Rows.modelClosedRow.domain false) (Rows.modelClosedSpec.post enc Tryz.prog Tryz.f7 false true false false) := by
  refine returnsInHanded_of_change (C := Tryz.checked) own started (by kernel_rfl) Tryz.func7
    (ChangeSpec.witness6 (enc := enc) (C := Tryz.checked) false ⟨#[], #[.slice none 0 0, .slice none 0 0, .string ⟨#[]⟩], []⟩ 8 (by kernel_rfl) (by kernel_rfl) (by kernel_rfl) (by kernel_rfl)) ?_
  intro W base args ds gs before hval0 hW hcnd _
  have hval : ∀ (j : Nat) t v, Tryz.f7.params[j]? = some t → args[j]? = some v → Value.okWide Tryz.prog W .any base t v := hval0
  have hW' := hW
  obtain ⟨p, q, hA0, hV, rfl, hfz, hnd⟩ := hW
  have hA : DataW.TrodAll enc Tryz.prog W 0 (fun _ => true) true Tryz.f7.params.toList args.toList ds p := hA0
  rw [Tryz.params7] at hA hval
  obtain ⟨v0, vs0, d0, ds0, p0, q0, hargs, rfl, rfl, h0, r0⟩ := trodAll_cons hA
  obtain ⟨v1, vs1, d1, ds1, p1, q1, rfl, rfl, rfl, h1, r1⟩ := trodAll_cons r0
  obtain ⟨v2, vs2, d2, ds2, p2, q2, rfl, rfl, rfl, h2, r2⟩ := trodAll_cons r1
  obtain ⟨rfl, rfl, rfl⟩ := trodAll_nil r2
  obtain rfl : args = #[v0, v1, v2] := by cases args; simp_all
  obtain ⟨A, c, l, rfl, hs, hl, hq⟩ := open_acts (hval 0 25 v0 rfl rfl) h0
  obtain ⟨B, cb, ms, rfl, gs, gl, gq⟩ := open_acts (hval 1 25 v1 rfl rfl) h1
  obtain ⟨a2, rfl, rfl, rfl, w2⟩ := Go.ChangeMaps.open_string Tryz.underlying9 (hval 2 9 v2 rfl rfl) h2
  refine (walk l A c ms B cb a2 W hs hl hq gs gl gq w2).mono fun e W' ⟨he, bel⟩ => ?_
  subst he
  exact ⟨_, rfl, Law.post_law laidOut (by kernel_rfl) (by kernel_rfl) Tryz.underlying4 rfl (fun ds h => by match ds, h with | [_, _, _], _ => rfl) hW' bel⟩

theorem proved : Rows.ModelClosedSaid :=
  OpenClaim.holds_of_wide 7 Tryz.f7 rfl rfl rfl rfl rfl rfl rfl ⟨rfl, rfl, rfl, rfl, rfl⟩ rfl rfl rfl rfl rfl (by kernel_rfl) Tryz.func7 (by kernel_rfl)
    (of_decide_eq_true (by kernel_rfl)) (by unfold Func.isWrapper; rw [if_neg (by decide +kernel)]; exact ⟨rfl, rfl⟩)
    (fun os started H enc _ => lifted os started H enc)
#print axioms proved
end modelClosed
end Go.Proofs.YtombdjkfbjpipaaGreat
