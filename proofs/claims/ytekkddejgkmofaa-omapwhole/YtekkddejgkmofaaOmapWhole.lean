/-
  OmapWhole: whatever the acts, the statement's function returns true, and the argument reads as before. No condition.
-/
import Derived.Test.YtekkddejgkmofaaOmap03
namespace Go.Proofs.Ytekkddejgkmofaa.omapWhole
open Go.ChangeShapes Go.WideShapes Go.ChangeAt Go.RowKit
open Omap

theorem len_of {W w : World} {p : Option Addr} {xs : List (ByteArray × Int)} (h : OmapS.At W W.heap.size p xs) (K : Below W.heap.size W w) :
    Calls Try.prog 18 #[OmapS.M p] w fun e w' => e = .returned (.int .i64 (xs.length : Int)) ∧ w.alloc (.cells #[.pointer p] 27) = w' := OmapS.len (h.under K) K.size

set_option maxRecDepth 100000 in
set_option maxHeartbeats 4000000 in
theorem walk (l : List (Bool × ByteArray × Int)) (A : Option Addr) (c : Nat) (w : World) (hs : Law.Acts w w.heap.size A l) (hl : l.length ≤ maxLen) (hz : ∀ q ∈ l, q.2.1.size ≤ maxLen) :
    Calls Try.prog 7 #[.slice A l.length c] w fun e w' => e = .returned (.bool true) ∧ Below w.heap.size w w' := by
  have HS := Lib.hid hs
  have HL := Lib.hid hl
  have HZ := Lib.hid hz
  clear hs hl hz
  go_enter Try.func7, Try.ntmps7
  go_wp2_with fail
  refine (awake _).mono ?_
  rintro e w1 ⟨rfl, b1⟩
  have HB := Lib.hid b1
  clear b1
  go_wp2_with fail
  refine (long l A c _ ((HS.out.below HB.out).wide HB.out.size) HL.out HZ.out).mono ?_
  rintro e w' ⟨b, rfl, hb, rfl⟩
  cases b with
  | true =>
    go_wp2_with fail
    refine (awake _).mono ?_
    rintro e w2 ⟨rfl, b2⟩
    have B2 := Lib.hid (HB.out.trans (b2.mono HB.out.size))
    clear b2
    go_wp2_with fail
    go_ret
    exact ⟨rfl, B2.out⟩
  | false =>
    have hl := hb rfl
    clear hb
    have sw := HB.out.size
    have V0 : Hid (Var ((w1.alloc (.cells #[.pointer none] 27)).alloc (.cells #[.pointer none] 27)) w1.heap.size [] ∧ Var ((w1.alloc (.cells #[.pointer none] 27)).alloc (.cells #[.pointer none] 27)) (w1.heap.size + 1) [] ∧
        Below w.heap.size w ((w1.alloc (.cells #[.pointer none] 27)).alloc (.cells #[.pointer none] 27))) :=
      ⟨(Var.new w1 rfl).below ((Below.refl _ _).alloc (Nat.le_refl _) _), Var.new _ (by simp), (HB.out.alloc sw _).alloc (by simp; omega) _⟩
    go_wp2_with fail
    generalize (w1.alloc (.cells #[.pointer none] 27)).alloc (.cells #[.pointer none] 27) = w2 at *
    go_loopw [5] (fun i wr => ∃ k : Nat, k ≤ l.length ∧ i = .int .i64 k ∧ ∃ xs, xs.length ≤ k ∧ Var wr w1.heap.size xs ∧ Var wr (w1.heap.size + 1) [] ∧ Below w.heap.size w wr) (fun i _ => l.length - (intOf i).toNat)
    case atStart => exact ⟨0, Nat.zero_le _, rfl, [], Nat.le_refl _, V0.out⟩
    case round =>
      obtain ⟨k, hk, rfl, xs, hx, hV, hV', hB⟩ := hrel
      clear V0
      have lV := hV.lt
      obtain ⟨p, hi, ht, hr⟩ := hV
      have c0 : wr.cell? ⟨w1.heap.size, 0, none⟩ = some (.pointer p) := hi.cell' rfl
      have HT := Lib.hid ht
      have HR := Lib.hid hr
      have HV := Lib.hid hi
      have HN := Lib.hid hV'
      have HB' := Lib.hid hB
      clear ht hr hi hV' hB
      by_cases hlt : k < l.length
      · obtain ⟨b, off, rfl, hb, q0, q1, q2⟩ := (HS.out.below HB'.out).at hlt
        generalize l[k].2.1 = key at *
        generalize l[k].2.2 = val at *
        generalize l[k].1 = out at *
        cases out with
        | true =>
          go_wp2_with fail
          go_still_tail 6, (by kernel_rfl)
          change wpList _ _ _ _ _ wr.drew
          have HT' : Hid (OmapS.At wr.drew wr.drew.heap.size p xs) := HT.out.drewN 1
          have HV' : Hid (Law.Is wr.drew w1.heap.size 27 #[.pointer p]) := HV.out.drewN 1
          have HN' : Hid (Var wr.drew (w1.heap.size + 1) []) := HN.out.drewN 1
          have HB2 : Hid (Below w.heap.size w wr.drew) := Law.below_drewN HB'.out 1
          clear HT HV HN HB' c0 q0 q1 q2 lV
          generalize wr.drew = wd at *
          go_wp2_with fail
          refine (OmapS.withoutM key HT'.out (Nat.le_refl _) HR.out (by omega)).mono ?_
          rintro e w3 ⟨p3, rfl, t3, b3⟩
          have i3 := HV'.out.below b3 HV'.out.lt
          have c3 : w3.cell? ⟨w1.heap.size, 0, none⟩ = some (.pointer p) := i3.cell' rfl
          have f3 := i3.frozen 0
          have l3 := i3.lt
          have H3 : Hid (Var (w3.setCell ⟨w1.heap.size, 0, none⟩ (.pointer p3)) w1.heap.size (Law.outK key xs) ∧ Var (w3.setCell ⟨w1.heap.size, 0, none⟩ (.pointer p3)) (w1.heap.size + 1) [] ∧ Below w.heap.size w (w3.setCell ⟨w1.heap.size, 0, none⟩ (.pointer p3))) :=
            ⟨Var.of i3 t3 (Law.outK_rises OmapS.lt HR.out), (HN'.out.below b3).far i3 (by decide) (by omega) _, (HB2.out.trans (b3.mono HB2.out.size)).setCell (p := ⟨w1.heap.size, 0, none⟩) sw _⟩
          have hp := Law.outK_length key xs
          clear i3 t3 b3 HT' HV' HN' HB2
          go_wp2_with fail
          go_roundw
          case rel => exact ⟨k + 1, by omega, by go_num, Law.outK key xs, by omega, H3.out⟩
          case measure => simp [intOf]; omega
        | false =>
          go_wp2_with fail
          go_still_tail 11, (by kernel_rfl)
          change wpList _ _ _ _ _ wr.drew
          have HT' : Hid (OmapS.At wr.drew wr.drew.heap.size p xs) := HT.out.drewN 1
          have HV' : Hid (Law.Is wr.drew w1.heap.size 27 #[.pointer p]) := HV.out.drewN 1
          have HN' : Hid (Var wr.drew (w1.heap.size + 1) []) := HN.out.drewN 1
          have HB2 : Hid (Below w.heap.size w wr.drew) := Law.below_drewN HB'.out 1
          clear HT HV HN HB' c0 q0 q1 q2 lV
          generalize wr.drew = wd at *
          go_wp2_with fail
          refine (OmapS.withM key val HT'.out (Nat.le_refl _) HR.out (by omega)).mono ?_
          rintro e w3 ⟨p3, rfl, t3, b3⟩
          have i3 := HV'.out.below b3 HV'.out.lt
          have c3 : w3.cell? ⟨w1.heap.size, 0, none⟩ = some (.pointer p) := i3.cell' rfl
          have f3 := i3.frozen 0
          have l3 := i3.lt
          have H3 : Hid (Var (w3.setCell ⟨w1.heap.size, 0, none⟩ (.pointer p3)) w1.heap.size (Law.putK OmapS.lt key val xs) ∧ Var (w3.setCell ⟨w1.heap.size, 0, none⟩ (.pointer p3)) (w1.heap.size + 1) [] ∧ Below w.heap.size w (w3.setCell ⟨w1.heap.size, 0, none⟩ (.pointer p3))) :=
            ⟨Var.of i3 t3 (Law.putK_rises OmapS.lt OmapS.tri HR.out), (HN'.out.below b3).far i3 (by decide) (by omega) _, (HB2.out.trans (b3.mono HB2.out.size)).setCell (p := ⟨w1.heap.size, 0, none⟩) sw _⟩
          have hp := Law.putK_length OmapS.lt key val xs
          clear i3 t3 b3 HT' HV' HN' HB2
          go_wp2_with fail
          go_roundw
          case rel => exact ⟨k + 1, by omega, by go_num, Law.putK OmapS.lt key val xs, by omega, H3.out⟩
          case measure => simp [intOf]; omega
      · have hxl : xs.length ≤ 900 := by omega
        have B9 := HB'.out.size
        have K3 : Below wr.heap.size wr (((wr.alloc (.cells #[.string { data := #[] }] 9)).alloc (.cells #[.bool true] 4)).alloc (.cells #[.bool true] 4)) := (((Below.refl _ wr).alloc (Nat.le_refl _) _).alloc (by simp) _).alloc (by simp; omega) _
        have L3 : Law.Is (((wr.alloc (.cells #[.string { data := #[] }] 9)).alloc (.cells #[.bool true] 4)).alloc (.cells #[.bool true] 4)) wr.heap.size 9 #[.string (lastK [])] := ((Law.Is.new wr _ _ rfl).alloc _).alloc _
        have F3 : Law.Is (((wr.alloc (.cells #[.string { data := #[] }] 9)).alloc (.cells #[.bool true] 4)).alloc (.cells #[.bool true] 4)) (wr.heap.size + 1) 4 #[.bool true] := (Law.Is.new _ _ _ (by simp)).alloc _
        have R3 : Law.Is (((wr.alloc (.cells #[.string { data := #[] }] 9)).alloc (.cells #[.bool true] 4)).alloc (.cells #[.bool true] 4)) (wr.heap.size + 2) 4 #[.bool true] := Law.Is.new _ _ _ (by simp)
        go_wp2_with fail
        generalize ((wr.alloc (.cells #[.string { data := #[] }] 9)).alloc (.cells #[.bool true] 4)).alloc (.cells #[.bool true] 4) = w3 at *
        refine (OmapS.all _ p).mono ?_
        rintro e w4 ⟨rfl, rfl⟩
        have K4 : Below wr.heap.size wr (w3.alloc (.cells #[.pointer p] 27)) := K3.alloc K3.size _
        have c4 : (w3.alloc (.cells #[.pointer p] 27)).cell? ⟨w3.heap.size, 0, none⟩ = some (.pointer p) := (Law.Is.new w3 27 #[.pointer p] rfl).cell' rfl
        have J4 : Whole w w1.heap.size (w1.heap.size + 1) wr.heap.size xs [] (w3.alloc (.cells #[.pointer p] 27)) :=
          ⟨Var.below (show Var wr w1.heap.size xs from ⟨p, HV.out, HT.out, HR.out⟩) K4, HN.out.below K4, L3.alloc _, F3.alloc _, R3.alloc _, HB'.out.trans (K4.mono B9)⟩
        have HE := Lib.hid (OmapS.each 24 #[.pointer (some ⟨w1.heap.size + 1, 0, none⟩), .pointer (some ⟨wr.heap.size + 2, 0, none⟩), .pointer (some ⟨wr.heap.size + 1, 0, none⟩), .pointer (some ⟨wr.heap.size, 0, none⟩)] (enters_of Try.func24 (by kernel_rfl) rfl)
          (fun pre W => Whole w w1.heap.size (w1.heap.size + 1) wr.heap.size xs pre W) (fun _ => true) wr.heap.size xs
          (fun pre key val W hJ hpre => whole1 w w1.heap.size (w1.heap.size + 1) wr.heap.size xs pre key val W hJ hpre HR.out hxl (by omega) B9 (by omega))
          (fun pre W n hJ => hJ.drewN n) (w3.alloc (.cells #[.pointer p] 27)) w3.heap.size p c4 (HT.out.under K4) J4)
        clear K3 L3 F3 R3 K4 c4 J4
        go_wp2_with fail
        refine HE.out.mono ?_
        rintro e w5 ⟨⟨ve, rfl⟩, j5, _⟩
        rw [Law.runW_true (fun _ => rfl)] at j5
        obtain ⟨pm, im, tm, rm⟩ := j5.m
        obtain ⟨pn, i_n, tn, rn⟩ := j5.n
        have cm : w5.cell? ⟨w1.heap.size, 0, none⟩ = some (.pointer pm) := im.cell' rfl
        have cn : w5.cell? ⟨w1.heap.size + 1, 0, none⟩ = some (.pointer pn) := i_n.cell' rfl
        have cr : w5.cell? ⟨wr.heap.size + 1 + 1, 0, none⟩ = some (.bool true) := j5.rises.cell' rfl
        have lm := im.lt
        have ln := i_n.lt
        have lr : wr.heap.size + 1 + 1 < w5.heap.size := j5.rises.lt
        have HJ := Lib.hid j5
        have TM := Lib.hid tm
        have TN := Lib.hid tn
        have RN := Lib.hid rn
        clear HE j5 tm tn rm rn im i_n HT HR HV HN HB'
        go_upto_region 12 with (fail)
        generalize wr.heap.size + 1 + 1 = rb at *
        go_cut [9] (fun v9 wx => ∃ g, v9 = .pointer (some ⟨g, 0, none⟩) ∧ w5.heap.size ≤ g ∧ Law.Is wx g 4 #[.bool true] ∧ Below w5.heap.size w5 wx)
        case first =>
          go_region_held3 (fun w' => w'.cell? ⟨rb, 0, none⟩ = some (.bool true) ∧ w'.cell? ⟨w1.heap.size + 1, 0, none⟩ = some (.pointer pn) ∧ w'.cell? ⟨w1.heap.size, 0, none⟩ = some (.pointer pm)) (first | (go_simp; done) | (go_keep; done)) (first
            | (go_at_call_of 18 (Value.agg #[Value.pointer pn]); refine (len_of TN.out ?_).mono ?_; (focus (repeat (first | with_reducible exact Below.refl _ _ | with_reducible refine Below.drew ?_ | ((with_reducible refine Below.alloc ?_ ?_ _); rotate_left 1; (first | exact Nat.le_refl _ | exact Nat.le_succ _ | ((try simp only [World.size_alloc]); omega) | (simp; done) | (simp; omega)))))); rintro e w6 ⟨rfl, rfl⟩)
            | (go_at_call_of 18 (Value.agg #[Value.pointer pm]); refine (len_of TM.out ?_).mono ?_; (focus (repeat (first | with_reducible exact Below.refl _ _ | with_reducible refine Below.drew ?_ | ((with_reducible refine Below.alloc ?_ ?_ _); rotate_left 1; (first | exact Nat.le_refl _ | exact Nat.le_succ _ | ((try simp only [World.size_alloc]); omega) | (simp; done) | (simp; omega)))))); rintro e w6 ⟨rfl, rfl⟩))
          all_goals
            go_wp2_with fail
            go_meet
            refine ⟨_, rfl, ?_, ?_, ?_⟩
            · (first | exact Nat.le_refl _ | exact Nat.le_succ _ | (simp; done) | (simp; omega) | omega)
            · repeat (first | ((with_reducible refine Law.Is.new _ _ _ ?_); (first | rfl | (simp only [World.size_alloc]; done)); done) | with_reducible refine Law.Is.drew ?_ | with_reducible refine Law.Is.alloc ?_ _)
            · repeat (first | with_reducible exact Below.refl _ _ | with_reducible refine Below.drew ?_ | ((with_reducible refine Below.alloc ?_ ?_ _); rotate_left 1; (first | exact Nat.le_refl _ | exact Nat.le_succ _ | ((try simp only [World.size_alloc]); omega) | (simp; done) | (simp; omega))))
        case rest =>
          obtain ⟨g, rfl, hg, ig, bg⟩ := hcut
          have M9 := HJ.out.m.below bg
          obtain ⟨qn, jn, un, vn⟩ := HJ.out.n.below bg
          have c9 : wc.cell? ⟨w1.heap.size + 1, 0, none⟩ = some (.pointer qn) := jn.cell' rfl
          have B9' := HJ.out.bel.trans (bg.mono HJ.out.bel.size)
          have s9 := HJ.out.bel.size
          clear HJ TM TN RN cm cn cr lm ln lr jn bg
          have UN := Lib.hid un
          have G9 := Lib.hid (⟨M9, ig, B9'⟩ : Omap.Good w w1.heap.size g xs wc)
          clear un vn M9 ig B9'
          go_wp2_with fail
          refine (OmapS.all _ qn).mono ?_
          rintro e w7 ⟨rfl, rfl⟩
          have K7 : Below wc.heap.size wc (wc.alloc (.cells #[.pointer qn] 27)) := (Below.refl _ wc).alloc (Nat.le_refl _) _
          have c7 : (wc.alloc (.cells #[.pointer qn] 27)).cell? ⟨wc.heap.size, 0, none⟩ = some (.pointer qn) := (Law.Is.new wc 27 #[.pointer qn] rfl).cell' rfl
          have J7 : Omap.Good w w1.heap.size g xs (wc.alloc (.cells #[.pointer qn] 27)) := ⟨G9.out.m.below K7, G9.out.good.alloc _, G9.out.bel.trans (K7.mono G9.out.bel.size)⟩
          have HE := Lib.hid (OmapS.each 25 #[.pointer (some ⟨w1.heap.size, 0, none⟩), .pointer (some ⟨g, 0, none⟩)] (enters_of Try.func25 (by kernel_rfl) rfl)
            (fun _ W => Omap.Good w w1.heap.size g xs W) (fun _ => true) wc.heap.size xs
            (fun pre key val W hJ hpre => whole2 w w1.heap.size g xs pre key val W hJ hpre (by omega))
            (fun _ W n hJ => ⟨hJ.m.drewN n, hJ.good.drewN n, Law.below_drewN hJ.bel n⟩) (wc.alloc (.cells #[.pointer qn] 27)) wc.heap.size qn c7 (UN.out.under K7) J7)
          clear K7 c7 J7
          go_wp2_with fail
          refine HE.out.mono ?_
          rintro e w8 ⟨⟨ve8, rfl⟩, j8, _⟩
          have c8 : w8.cell? ⟨g, 0, none⟩ = some (.bool true) := j8.good.cell' rfl
          have B8 := Lib.hid j8.bel
          clear j8 HE
          go_wp2_with fail
          go_ret
          exact ⟨rfl, B8.out⟩

set_option maxRecDepth 100000 in
theorem lifted (os : Os) (started : os.Started) (H : Type) (enc : TypeId × Value → H) :
    ReturnsInHanded {} Try.checked os 7 .any (Rows.omapWholeSpec.pre6 enc Try.prog Try.f7 Rows.omapWholeRow.domain false) (Rows.omapWholeSpec.post enc Try.prog Try.f7 false true false false) := by
  refine returnsInHanded_of_change (C := Try.checked) own started (by kernel_rfl) Try.func7
    (ChangeSpec.witness6 (enc := enc) (C := Try.checked) false ⟨#[], #[.slice none 0 0], []⟩ 8 (by kernel_rfl) (by kernel_rfl) (by kernel_rfl) (by kernel_rfl)) ?_
  intro W base args ds gs before hval0 hW hcnd _
  have hval : ∀ (j : Nat) t v, Try.f7.params[j]? = some t → args[j]? = some v → Value.okWide Try.prog W .any base t v := hval0
  have hW' := hW
  obtain ⟨p, q, hA0, hV, rfl, hfz, hnd⟩ := hW
  have hA : DataW.TrodAll enc Try.prog W 0 (fun _ => true) true Try.f7.params.toList args.toList ds p := hA0
  rw [Try.params7] at hA hval
  obtain ⟨v0, vs0, d0, ds0, p0, q0, hargs, rfl, rfl, h0, r0⟩ := trodAll_cons hA
  obtain ⟨rfl, rfl, rfl⟩ := trodAll_nil r0
  obtain rfl : args = #[v0] := by cases args; simp_all
  obtain ⟨A, c, l, rfl, hs, hl, hz⟩ := Law.open_acts Try.underlying22 Try.underlying30 (by kernel_rfl) rfl rfl rfl (by kernel_rfl) (by kernel_rfl) (by kernel_rfl) (by kernel_rfl) (by kernel_rfl) (by kernel_rfl) (hval 0 22 v0 rfl rfl) h0
  refine (walk l A c W hs hl hz).mono fun e W' ⟨he, bel⟩ => ?_
  subst he
  exact ⟨_, rfl, Law.post_law laidOut (by kernel_rfl) (by kernel_rfl) Try.underlying4 rfl (fun ds h => by match ds, h with | [_], _ => rfl) hW' bel⟩

theorem proved : Rows.OmapWholeSaid :=
  OpenClaim.holds_of_wide 7 Try.f7 rfl rfl rfl rfl rfl rfl rfl ⟨rfl, rfl, rfl, rfl, rfl⟩ rfl rfl rfl rfl rfl (by kernel_rfl) Try.func7 (by kernel_rfl)
    (of_decide_eq_true (by kernel_rfl)) (by unfold Func.isWrapper; rw [if_neg (by decide +kernel)]; exact ⟨rfl, rfl⟩)
    (fun os started H enc _ => lifted os started H enc)
#print axioms proved
end Go.Proofs.Ytekkddejgkmofaa.omapWhole
