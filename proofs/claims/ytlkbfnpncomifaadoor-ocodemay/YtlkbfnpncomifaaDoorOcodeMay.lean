/-
  What bytes tell may be.
-/
import Derived.Test.YtlkbfnpncomifaaDoorOcMem
namespace Go.Proofs.YtlkbfnpncomifaaDoor
open Go.RowKit Go.ChangeShapes Go.WideShapes Go.ChangeAt
attribute [local go_sem] Oper.semAt_some
namespace ocodeMay
open Go.Law Opx
set_option maxRecDepth 100000 in
set_option maxHeartbeats 4000000 in
theorem walk (A : Option Addr) (c : Nat) (b : List Int) (w : World) (hs : Seq w 0 w.heap.size A (b.map (.int .u8))) (hl : b.length ≤ maxLen) (hc : b.length ≤ c) (hb : Bytes b) (hT : Tabs w) :
    Calls Tryd.prog 4 #[.slice A b.length c] w fun e w' => e = .returned (.bool true) ∧ Below w.heap.size w w' := by
  have h0 := tab_pos hT
  have HS := Lib.hid hs
  have HT := Lib.hid hT
  have HBY := Lib.hid hb
  have HLL := Lib.hid hl
  unfold maxLen at hl
  clear hs hT hb
  go_enter Tryd.func4, Tryd.ntmps4
  go_wp2_with fail
  refine (awake w HT.out h0).mono ?_
  rintro e w2 ⟨rfl, b2⟩
  have HB2 := Lib.hid b2
  have HS2 := Lib.hid ((HS.out.below b2).more b2.size)
  have HT2 := Lib.hid (HT.out.below b2)
  clear b2
  by_cases hf : 50000 < b.length
  · have d1 : decide ((50000 : Int) < (b.length : Int)) = true := by simp; omega
    go_wp2_with fail
    refine (awake w2 HT2.out (tab_pos HT2.out)).mono ?_
    rintro e w3 ⟨rfl, b3⟩
    have HB3 := Lib.hid (HB2.out.trans (b3.mono HB2.out.size))
    clear b3
    go_wp2_with fail
    go_ret
    exact ⟨rfl, HB3.out⟩
  · have d1 : decide ((50000 : Int) < (b.length : Int)) = false := by simp; omega
    go_wp2_with fail
    refine (read HBY.out HS2.out HLL.out hc HT2.out (tab_pos HT2.out)).mono ?_
    rintro e w3 ⟨C, cC, ls, Kp, cK, rfl, hpl, hcl, hk, hcC, b3⟩
    have ba := (Below.refl w3.heap.size w3).alloc (Nat.le_refl _) (.cells #[.int .i64 (1 + at_ b 0 % 8), .int .i64 (1 + at_ b 1 % 8), .int .i64 (1 + at_ b 2 % 16), .int .i64 (1 + at_ b 3 % 8), .int .i64 (at_ b 4 % 5), .int .u64 (at_ b 5), .int .u64 (longI (at_ b 6)), .slice C ls.length cC, .slice Kp (picks b).length cK] 31)
    have HX := Lib.hid (show Scr (w3.alloc (.cells #[.int .i64 (1 + at_ b 0 % 8), .int .i64 (1 + at_ b 1 % 8), .int .i64 (1 + at_ b 2 % 16), .int .i64 (1 + at_ b 3 % 8), .int .i64 (at_ b 4 % 5), .int .u64 (at_ b 5), .int .u64 (longI (at_ b 6)), .slice C ls.length cC, .slice Kp (picks b).length cK] 31)) w3.heap.size b C cC ls Kp cK from ⟨Is.new w3 _ _ rfl, hcl.keeps (Keeps.of_below ba) (Keeps.of_below ba) (Keeps.of_below ba), hk.now ba⟩)
    have HB4 := Lib.hid ((HB2.out.trans (b3.mono HB2.out.size)).trans (ba.mono (HB2.out.trans (b3.mono HB2.out.size)).size))
    have HPL := Lib.hid hpl
    have hpk := picks_le b
    clear ba b3 hcl hk hpl
    go_wp2_with fail
    generalize w3.alloc (.cells #[.int .i64 (1 + at_ b 0 % 8), .int .i64 (1 + at_ b 1 % 8), .int .i64 (1 + at_ b 2 % 16), .int .i64 (1 + at_ b 3 % 8), .int .i64 (at_ b 4 % 5), .int .u64 (at_ b 5), .int .u64 (longI (at_ b 6)), .slice C ls.length cC, .slice Kp (picks b).length cK] 31) = w4 at *
    go_loopw [4] (fun vi wr => ∃ j : Nat, j ≤ (picks b).length ∧ vi = .int .i64 j ∧ Below w4.heap.size w4 wr) (fun vi _ => (picks b).length - (RowKit.intOf vi).toNat)
    case atStart => exact ⟨0, Nat.zero_le _, rfl, Below.refl _ _⟩
    case round =>
      obtain ⟨j, hj, rfl, hw⟩ := hrel
      have HW := Lib.hid hw
      have HXr := Lib.hid (HX.out.below hw)
      clear hw
      have x8 : wr.cell? ⟨w3.heap.size, 8, none⟩ = some (.slice Kp (picks b).length cK) := HXr.out.box.cell' rfl
      have lx := HXr.out.box.lt
      by_cases hlt : j < (picks b).length
      · have d2 : decide ((j : Int) < ((picks b).length : Int)) = true := by simp; omega
        obtain ⟨k, off, rfl, lk, c0, c1, c2⟩ := Opx.Lain.pk HXr.out.pks hlt
        have HP := pick_cases b (List.getElem_mem hlt)
        generalize (picks b)[j] = p at *
        rcases HP with ⟨q, hq, rfl⟩ | rfl | ⟨l, rfl⟩
        · have e0 : decide (q < 0) = false := by simp; omega
          have e1 : decide (7 < q) = false := by simp; omega
          simp only at c0 c1 c2
          go_wp2_with fail
          go_roundw
          case rel => exact ⟨j + 1, by omega, by go_num, HW.out.alloc HW.out.size _⟩
          case measure => simp [RowKit.intOf]; omega
        · simp only at c0 c1 c2
          go_wp2_with fail
          go_roundw
          case rel => exact ⟨j + 1, by omega, by go_num, HW.out.alloc HW.out.size _⟩
          case measure => simp [RowKit.intOf]; omega
        · simp only at c0 c1 c2
          go_wp2_with fail
          go_roundw
          case rel => exact ⟨j + 1, by omega, by go_num, HW.out.alloc HW.out.size _⟩
          case measure => simp [RowKit.intOf]; omega
      · obtain rfl : j = (picks b).length := by omega
        have d2 : decide (((picks b).length : Int) < ((picks b).length : Int)) = false := by simp
        have HBw := Lib.hid (HB4.out.trans (HW.out.mono HB4.out.size))
        have y0 := HXr.out.box.cell' (i := 0) rfl
        have y1 := HXr.out.box.cell' (i := 1) rfl
        have y2 := HXr.out.box.cell' (i := 2) rfl
        have y3 := HXr.out.box.cell' (i := 3) rfl
        have y4 := HXr.out.box.cell' (i := 4) rfl
        have y5 := HXr.out.box.cell' (i := 5) rfl
        have y6 := HXr.out.box.cell' (i := 6) rfl
        have y7 := HXr.out.box.cell' (i := 7) rfl
        have HCH := Lib.hid (check (cfB b) C (lns ls) cC Kp (picks b).length cK wr (by rw [lns_sl]; exact HXr.out.cls.row.seq) (by rw [lns_len, plainC_len HPL.out]; have := clN_le HBY.out; unfold maxLen; omega) (lns_le HBY.out HPL.out) (by unfold maxLen; omega) (check_zero HBY.out HPL.out))
        rw [lns_len] at HCH
        go_wp2_with fail
        refine HCH.out.mono ?_
        rintro e w7 ⟨rfl, b7⟩
        have HB7 := Lib.hid (HBw.out.trans (b7.mono HBw.out.size))
        have HX7 := Lib.hid (HXr.out.below b7)
        have z8 : w7.cell? ⟨w3.heap.size, 8, none⟩ = some (.slice Kp (picks b).length cK) := HX7.out.box.cell' rfl
        have l7 := HX7.out.box.lt
        have d3 : decide ((2 : Int) * ((picks b).length : Int) ≤ (b.length : Int)) = true := by simp; omega
        clear b7 x8 lx
        go_wp2_with fail
        go_ret
        exact ⟨rfl, HB7.out⟩
set_option maxRecDepth 100000 in
set_option maxHeartbeats 4000000 in
theorem lifted (os : Os) (started : os.Started) (H : Type) (enc : TypeId × Value → H) :
    ReturnsInHanded {} Tryd.checked os 4 .any (fun w args => (Rows.ocodeMaySpec.pre enc Tryd.prog Tryd.f4 [] false w args ∧ laidMetH Tryd.prog Rows.ocodeMayRow.laid w) ∧ sizedMet enc Tryd.prog Tryd.f4 (OpenSpec.ofChange Rows.ocodeMaySpec) false w args) (Rows.ocodeMaySpec.post enc Tryd.prog Tryd.f4 false true false false) := by
  refine returnsInHanded_of_change_and (C := Tryd.checked) (X := (fun w _ => laidMetH Tryd.prog Rows.ocodeMayRow.laid w)) (fun _ _ _ hh h => h.of_heap hh) own started (by kernel_rfl) Tryd.func4
    (ChangeSpec.witness_shaped (enc := enc) (C := Tryd.checked) (os := os) (X := (fun w _ => laidMetH Tryd.prog Rows.ocodeMayRow.laid w)) false (World.laidAll Tryd.prog os Rows.ocodeMayRow.laid) #[.slice none 0 0] 8 (World.laidAll_os _ _ _)
      (World.shaped_of_ZipB (by kernel_rfl) (by kernel_rfl)) (by kernel_rfl) (by kernel_rfl) (by kernel_rfl)
      (by rw [MakeChecks.laidMetH_plain _ _ _ (by kernel_rfl)]; exact laidMet_laidAll _ (by kernel_rfl) (by kernel_rfl))) ?_
  intro W base args ds gs before hval0 hW _ _ hL _
  have hval : ∀ (j : Nat) t v, Tryd.f4.params[j]? = some t → args[j]? = some v → Value.okWide Tryd.prog W .any base t v := hval0
  have hW' := hW
  obtain ⟨p, q, hA0, hV, rfl, hfz, hnd⟩ := hW
  have hA : DataW.TrodAll enc Tryd.prog W 0 (fun _ => true) true Tryd.f4.params.toList args.toList ds p := hA0
  rw [Tryd.params4] at hA hval
  obtain ⟨v0, vs0, d0, ds0, p0, q0, hargs, rfl, rfl, h0, r0⟩ := trodAll_cons hA
  obtain ⟨rfl, rfl, rfl⟩ := trodAll_nil r0
  obtain rfl : args = #[v0] := by cases args; simp_all
  obtain ⟨A0, c0, b0, rfl, hs0, hl0, hc0, hb0⟩ := Opx.open_bytes (hval 0 22 v0 rfl rfl) h0
  rw [MakeChecks.laidMetH_plain _ _ _ (by kernel_rfl)] at hL
  have HTb := Opx.tabs_of hL
  refine (walk A0 c0 b0 W hs0 hl0 hc0 hb0 HTb).mono fun e W' ⟨he, bel⟩ => ?_
  subst he
  exact ⟨_, rfl, Law.post_law laidOut (by kernel_rfl) (by kernel_rfl) Tryd.underlying4 rfl (fun ds h => by match ds, h with | [_], _ => rfl) hW' bel⟩
theorem holds : Rows.OcodeMaySaid :=
  OpenClaim.holds_of_wide 4 Tryd.f4 rfl rfl rfl rfl rfl rfl rfl ⟨rfl, rfl, rfl, rfl, rfl⟩ rfl rfl rfl rfl rfl (by kernel_rfl) Tryd.func4 (by kernel_rfl)
    (of_decide_eq_true (by kernel_rfl)) (by unfold Func.isWrapper; first | (rw [if_pos (by decide +kernel)]; kernel_rfl) | (rw [if_neg (by decide +kernel)]; exact ⟨rfl, rfl⟩))
    (fun os started H enc _ => lifted os started H enc)
theorem proved : Rows.OcodeMayCardSaid :=
  Claim7.holds_tied_plain_at .later [] [.data] true (true, "145f7ae6ac2e6a67618b4bf44aa04eb8b865f83cc5ac96450ba10f4f176ff81c") false holds (fun _ h => by cases h) (by kernel_rfl) (fun _ h => by cases h) ocodeMay_row_tie rfl ⟨rfl, rfl⟩ (by kernel_rfl) rfl
    (fun f fn hf hfn => by
      obtain rfl : f = 4 := Option.some.inj ((show Tryd.prog.funcNamed Rows.ocodeMayRow.func = some 4 by kernel_rfl).symm.trans hf) |>.symm
      obtain rfl : fn = Tryd.f4 := (Option.some.inj (Tryd.func4.symm.trans hfn)).symm
      exact ⟨by kernel_rfl, fun j t ht => by
        rw [Tryd.params4] at ht
        have hm : t ∈ [22] := by simpa using Array.mem_of_getElem? ht
        have hall : ([22].all fun u => !Tryd.prog.wantsStandIn u) = true := by kernel_rfl
        exact (show Tryd.prog.wantsStandIn t = false by simpa using List.all_eq_true.1 hall t hm)⟩)
    (by kernel_rfl)
#print axioms proved
end ocodeMay
end Go.Proofs.YtlkbfnpncomifaaDoor
