/-
  Any bytes tell the document's script; any two the document's pick.
-/
import Derived.Test.YtlkbfnpncomifaaDoorOcRd
namespace Go.Proofs.YtlkbfnpncomifaaDoor
open Go.RowKit Go.ChangeShapes Go.WideShapes Go.ChangeAt
attribute [local go_sem] Oper.semAt_some
namespace ocodeReads
open Go.Law Opx
set_option maxRecDepth 100000 in
set_option maxHeartbeats 2000000 in
theorem walk (A : Option Addr) (c : Nat) (b : List Int) (x y : Int) (hx : 0 ≤ x ∧ x ≤ 255) (hy : 0 ≤ y ∧ y ≤ 255) (w : World) (hs : Seq w 0 w.heap.size A (b.map (.int .u8))) (hl : b.length ≤ maxLen) (hc : b.length ≤ c) (hb : Bytes b) (hT : Tabs w) :
    Calls Tryd.prog 3 #[.slice A b.length c, .int .u8 x, .int .u8 y] w fun e w' => e = .returned (.bool true) ∧ Below w.heap.size w w' := by
  have h0 := tab_pos hT
  have HS := Lib.hid hs
  have HT := Lib.hid hT
  have HBY := Lib.hid hb
  have HLL := Lib.hid hl
  unfold maxLen at hl
  clear hs hT hb
  go_enter Tryd.func3, Tryd.ntmps3
  go_wp2_with fail
  refine (awake w HT.out h0).mono ?_
  rintro e w2 ⟨rfl, b2⟩
  have HB2 := Lib.hid b2
  have HS2 := Lib.hid ((HS.out.below b2).more b2.size)
  have HT2 := Lib.hid (HT.out.below b2)
  clear b2
  by_cases hf : 50000 < b.length
  · have d1 : decide ((50000 : Int) < (b.length : Int)) = true := by simp; omega
    go_wp2_with fail
    refine (awake w2 HT2.out (tab_pos HT2.out)).mono ?_
    rintro e w3 ⟨rfl, b3⟩
    have HB3 := Lib.hid (HB2.out.trans (b3.mono HB2.out.size))
    clear b3
    go_wp2_with fail
    go_ret
    exact ⟨rfl, HB3.out⟩
  · have d1 : decide ((50000 : Int) < (b.length : Int)) = false := by simp; omega
    go_wp2_with fail
    refine (read HBY.out HS2.out HLL.out hc HT2.out (tab_pos HT2.out)).mono ?_
    rintro e w3 ⟨C, cC, ls, Kp, cK, rfl, hpl, hcl, hk, hcC, b3⟩
    have HPL := Lib.hid hpl
    have HH3 := Lib.hid (show Hand w3 C ls Kp (picks b) from ⟨hcl, hk⟩)
    have HB3 := Lib.hid (HB2.out.trans (b3.mono HB2.out.size))
    have HS3 := Lib.hid ((HS2.out.below b3).more b3.size)
    have HT3 := Lib.hid (HT2.out.below b3)
    clear hpl hcl hk hcC b3 HB2 HS2 HT2
    go_wp2_with fail
    refine (refRead HBY.out HS3.out (by omega)).mono ?_
    rintro e w4 ⟨C2, cC2, ls2, Kp2, cK2, rfl, hpl2, hcl2, hk2, b4⟩
    have HP : Hid (plainC ls = plainC ls2) := Lib.hid (by rw [HPL.out, hpl2])
    have HH4 := Lib.hid (HH3.out.now b4)
    have HH4' := Lib.hid (show Hand w4 C2 ls2 Kp2 (picks b) from ⟨hcl2, hk2⟩)
    have HB4 := Lib.hid (HB3.out.trans (b4.mono HB3.out.size))
    have HT4 := Lib.hid (HT3.out.below b4)
    clear hpl2 hcl2 hk2 b4 HB3 HS3 HT3 HH3
    have HSM := Lib.hid (refSame (1 + at_ b 0 % 8) (1 + at_ b 1 % 8) (1 + at_ b 2 % 16) (1 + at_ b 3 % 8) (at_ b 4 % 5) (at_ b 5) (longI (at_ b 6)) ls ls2 (picks b) C C2 Kp Kp2 cC cC2 cK cK2 w4 HH4.out HH4'.out HP.out (by rw [plainC_len HPL.out]; have := clN_le HBY.out; omega) (fun r hr => by
      obtain ⟨i, hi⟩ := plainC_each HPL.out r hr
      have h5 := ops_le HBY.out i
      rw [← hi, List.length_map] at h5
      exact ⟨by omega, fun q hq => by
        have h6 := ops_us HBY.out i (plain q) (by rw [← hi]; exact List.mem_map.2 ⟨q, hq, rfl⟩)
        show (plain q).us.length ≤ 1000
        omega⟩) (by have := (picks_le b).2; omega))
    go_wp2_with fail
    refine HSM.out.mono ?_
    rintro e w5 ⟨rfl, b5⟩
    have HB5 := Lib.hid (HB4.out.trans (b5.mono HB4.out.size))
    have HT5 := Lib.hid (HT4.out.below b5)
    clear b5 HB4 HT4 HSM HH4 HH4'
    go_wp2_with fail
    refine (pick x y hx hy w5 rfl).mono ?_
    rintro e w6 ⟨rfl, b6⟩
    have HB6 := Lib.hid (HB5.out.trans (b6.mono HB5.out.size))
    have HT6 := Lib.hid (HT5.out.below b6)
    clear b6 HB5 HT5
    go_wp2_with fail
    refine (rPick x y hx hy w6 rfl).mono ?_
    rintro e w7 ⟨rfl, b7⟩
    have HB7 := Lib.hid (HB6.out.trans (b7.mono HB6.out.size))
    have HT7 := Lib.hid (HT6.out.below b7)
    clear b7 HB6 HT6
    generalize pickP x y = p at *
    obtain ⟨p0, p1, p2⟩ := p
    go_wp2_with fail
    refine (user0 x hx w7 HT7.out).mono ?_
    rintro e w8 ⟨rfl, rfl⟩
    go_wp2_with fail
    refine (rUser x hx w8 rfl).mono ?_
    rintro e w9 ⟨rfl, b9⟩
    have HB9 := Lib.hid (HB7.out.trans (b9.mono HB7.out.size))
    clear b9
    generalize userB x = u at *
    go_wp2_with fail
    go_ret
    exact ⟨rfl, HB9.out⟩
set_option maxRecDepth 100000 in
set_option maxHeartbeats 4000000 in
theorem lifted (os : Os) (started : os.Started) (H : Type) (enc : TypeId × Value → H) :
    ReturnsInHanded {} Tryd.checked os 3 .any (fun w args => (Rows.ocodeReadsSpec.pre enc Tryd.prog Tryd.f3 [] false w args ∧ laidMetH Tryd.prog Rows.ocodeReadsRow.laid w) ∧ sizedMet enc Tryd.prog Tryd.f3 (OpenSpec.ofChange Rows.ocodeReadsSpec) false w args) (Rows.ocodeReadsSpec.post enc Tryd.prog Tryd.f3 false true false false) := by
  refine returnsInHanded_of_change_and (C := Tryd.checked) (X := (fun w _ => laidMetH Tryd.prog Rows.ocodeReadsRow.laid w)) (fun _ _ _ hh h => h.of_heap hh) own started (by kernel_rfl) Tryd.func3
    (ChangeSpec.witness_shaped (enc := enc) (C := Tryd.checked) (os := os) (X := (fun w _ => laidMetH Tryd.prog Rows.ocodeReadsRow.laid w)) false (World.laidAll Tryd.prog os Rows.ocodeReadsRow.laid) #[.slice none 0 0, .int .u8 0, .int .u8 0] 8 (World.laidAll_os _ _ _)
      (World.shaped_of_ZipB (by kernel_rfl) (by kernel_rfl)) (by kernel_rfl) (by kernel_rfl) (by kernel_rfl)
      (by rw [MakeChecks.laidMetH_plain _ _ _ (by kernel_rfl)]; exact laidMet_laidAll _ (by kernel_rfl) (by kernel_rfl))) ?_
  intro W base args ds gs before hval0 hW _ _ hL _
  have hval : ∀ (j : Nat) t v, Tryd.f3.params[j]? = some t → args[j]? = some v → Value.okWide Tryd.prog W .any base t v := hval0
  have hW' := hW
  obtain ⟨p, q, hA0, hV, rfl, hfz, hnd⟩ := hW
  have hA : DataW.TrodAll enc Tryd.prog W 0 (fun _ => true) true Tryd.f3.params.toList args.toList ds p := hA0
  rw [Tryd.params3] at hA hval
  obtain ⟨v0, vs0, d0, ds0, p0, q0, hargs, rfl, rfl, h0, r0⟩ := trodAll_cons hA
  obtain ⟨v1, vs1, d1, ds1, p1, q1, rfl, rfl, rfl, h1, r1⟩ := trodAll_cons r0
  obtain ⟨v2, vs2, d2, ds2, p2, q2, rfl, rfl, rfl, h2, r2⟩ := trodAll_cons r1
  obtain ⟨rfl, rfl, rfl⟩ := trodAll_nil r2
  obtain rfl : args = #[v0, v1, v2] := by cases args; simp_all
  obtain ⟨A0, c0, b0, rfl, hs0, hl0, hc0, hb0⟩ := Opx.open_bytes (hval 0 22 v0 rfl rfl) h0
  obtain ⟨a1, rfl, rfl, rfl, w1⟩ := open_int Tryd.underlying5 (hval 1 5 v1 rfl rfl) h1
  obtain ⟨a2, rfl, rfl, rfl, w2⟩ := open_int Tryd.underlying5 (hval 2 5 v2 rfl rfl) h2
  rw [MakeChecks.laidMetH_plain _ _ _ (by kernel_rfl)] at hL
  have HTb := Opx.tabs_of hL
  refine (walk A0 c0 b0 a1 a2 (by have := bounds_u8 w1; omega) (by have := bounds_u8 w2; omega) W hs0 hl0 hc0 hb0 HTb).mono fun e W' ⟨he, bel⟩ => ?_
  subst he
  exact ⟨_, rfl, Law.post_law laidOut (by kernel_rfl) (by kernel_rfl) Tryd.underlying4 rfl (fun ds h => by match ds, h with | [_, _, _], _ => rfl) hW' bel⟩
theorem holds : Rows.OcodeReadsSaid :=
  OpenClaim.holds_of_wide 3 Tryd.f3 rfl rfl rfl rfl rfl rfl rfl ⟨rfl, rfl, rfl, rfl, rfl⟩ rfl rfl rfl rfl rfl (by kernel_rfl) Tryd.func3 (by kernel_rfl)
    (of_decide_eq_true (by kernel_rfl)) (by unfold Func.isWrapper; first | (rw [if_pos (by decide +kernel)]; kernel_rfl) | (rw [if_neg (by decide +kernel)]; exact ⟨rfl, rfl⟩))
    (fun os started H enc _ => lifted os started H enc)
theorem proved : Rows.OcodeReadsCardSaid :=
  Claim7.holds_tied_plain_at .later [] [.data] true (true, "145f7ae6ac2e6a67618b4bf44aa04eb8b865f83cc5ac96450ba10f4f176ff81c") false holds (fun _ h => by cases h) (by kernel_rfl) (fun _ h => by cases h) ocodeReads_row_tie rfl ⟨rfl, rfl⟩ (by kernel_rfl) rfl
    (fun f fn hf hfn => by
      obtain rfl : f = 3 := Option.some.inj ((show Tryd.prog.funcNamed Rows.ocodeReadsRow.func = some 3 by kernel_rfl).symm.trans hf) |>.symm
      obtain rfl : fn = Tryd.f3 := (Option.some.inj (Tryd.func3.symm.trans hfn)).symm
      exact ⟨by kernel_rfl, fun j t ht => by
        rw [Tryd.params3] at ht
        have hm : t ∈ [22, 5, 5] := by simpa using Array.mem_of_getElem? ht
        have hall : ([22, 5, 5].all fun u => !Tryd.prog.wantsStandIn u) = true := by kernel_rfl
        exact (show Tryd.prog.wantsStandIn t = false by simpa using List.all_eq_true.1 hall t hm)⟩)
    (by kernel_rfl)
#print axioms proved
end ocodeReads
end Go.Proofs.YtlkbfnpncomifaaDoor
