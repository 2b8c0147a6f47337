/-
  Of any script that is read, each op's fields are small, its user one that bytes tell.
-/
import Derived.Test.YtlkbfnpncomifaaDoorOcMem
import Derived.Test.YtlkbfnpncomifaaDoorOcSame
namespace Go.Proofs.YtlkbfnpncomifaaDoor
open Go.RowKit Go.ChangeShapes Go.WideShapes Go.ChangeAt
attribute [local go_sem] Oper.semAt_some
namespace ocodeOps
open Go.Law Opx
/-- what is to be known of an op that bytes tell -/
structure Small (q : OpP) : Prop where
  kind : 0 ≤ q.kind ∧ q.kind ≤ 10
  id : 0 ≤ q.id ∧ q.id ≤ 3
  st : 0 ≤ q.st ∧ q.st ≤ 10
  pr : 0 ≤ q.pr ∧ q.pr ≤ 9
  us : q.us.length ≤ 9
  user : ∃ k : Nat, k < 10 ∧ q.user = userB (k : Int)
  only : q.kind = 5 ∨ q.us.length = 0
theorem userB_ten (z : Int) : ∃ k : Nat, k < 10 ∧ userB z = userB (k : Int) := by
  refine ⟨(z % 10).toNat, by omega, ?_⟩
  unfold userB
  rw [show (((z % 10).toNat : Nat) : Int) % 10 = z % 10 by omega]
theorem small {b : List Int} (hb : Bytes b) (i : Nat) : Small (Law.opAt b i) := by
  have h0 := hb.at i
  have z3 : (0 : Int) ≤ 0 ∧ (0 : Int) ≤ 3 := by decide
  have z10 : (0 : Int) ≤ 0 ∧ (0 : Int) ≤ 10 := by decide
  have z9 : (0 : Int) ≤ 0 ∧ (0 : Int) ≤ 9 := by decide
  have h2 := hb.at (i + 2)
  have h3 := hb.at (i + 3)
  have h4 := hb.at (i + 4)
  have hu := op_us hb i
  have hz := userB_ten (at_ b (i + 1))
  unfold Law.opAt at hu ⊢
  by_cases k1 : at_ b i % 11 = 1
  · rw [if_pos k1] at hu ⊢
    exact ⟨by show _ ≤ at_ b i % 11 ∧ at_ b i % 11 ≤ _; omega, by show _ ≤ at_ b (i + 2) % 4 ∧ at_ b (i + 2) % 4 ≤ _; omega, by show _ ≤ at_ b (i + 3) % 11 ∧ at_ b (i + 3) % 11 ≤ _; omega, by show _ ≤ at_ b (i + 4) % 10 ∧ at_ b (i + 4) % 10 ≤ _; omega, hu, hz, .inr rfl⟩
  · rw [if_neg k1] at hu ⊢
    by_cases k2 : at_ b i % 11 = 2
    · rw [if_pos k2] at hu ⊢
      exact ⟨by show _ ≤ at_ b i % 11 ∧ at_ b i % 11 ≤ _; omega, by show _ ≤ at_ b (i + 2) % 4 ∧ at_ b (i + 2) % 4 ≤ _; omega, z10, z9, hu, hz, .inr rfl⟩
    · rw [if_neg k2] at hu ⊢
      by_cases k3 : at_ b i % 11 = 3
      · rw [if_pos k3] at hu ⊢
        exact ⟨by show _ ≤ at_ b i % 11 ∧ at_ b i % 11 ≤ _; omega, by show _ ≤ at_ b (i + 2) % 4 ∧ at_ b (i + 2) % 4 ≤ _; omega, z10, z9, hu, hz, .inr rfl⟩
      · rw [if_neg k3] at hu ⊢
        by_cases k5 : at_ b i % 11 = 5
        · rw [if_pos k5] at hu ⊢
          exact ⟨by show _ ≤ at_ b i % 11 ∧ at_ b i % 11 ≤ _; omega, z3, z10, z9, hu, hz, .inl k5⟩
        · rw [if_neg k5] at hu ⊢
          exact ⟨by show _ ≤ at_ b i % 11 ∧ at_ b i % 11 ≤ _; omega, z3, z10, z9, hu, hz, .inr rfl⟩
theorem eqB (a b : ByteArray) : (a.toList == b.toList) = decide (a = b) := by
  rw [Bool.eq_iff_iff, beq_iff_eq, decide_eq_true_eq]
  constructor
  · intro h
    have h2 : a.data.toList = b.data.toList := by simpa [ByteArray.toList_eq] using h
    exact ByteArray.ext (Array.toList_inj.1 h2)
  · intro h; rw [h]
def metB (u : ByteArray) (k : Nat) : Bool := (List.range k).any fun m => decide (userB (m : Int) = u)
theorem metB_snoc (u : ByteArray) (k : Nat) : metB u (k + 1) = (metB u k || decide (userB (k : Int) = u)) := by simp [metB, List.range_succ]
theorem metB_all {u : ByteArray} (h : ∃ k : Nat, k < 10 ∧ u = userB (k : Int)) : metB u 10 = true := by
  obtain ⟨k, hk, rfl⟩ := h
  unfold metB
  rw [List.any_eq_true]
  exact ⟨k, List.mem_range.2 hk, decide_eq_true rfl⟩
set_option maxRecDepth 100000 in
set_option maxHeartbeats 4000000 in
theorem walk (A : Option Addr) (c : Nat) (b : List Int) (w : World) (hs : Seq w 0 w.heap.size A (b.map (.int .u8))) (hl : b.length ≤ maxLen) (hc : b.length ≤ c) (hb : Bytes b) (hT : Tabs w) :
    Calls Tryd.prog 8 #[.slice A b.length c] w fun e w' => e = .returned (.bool true) ∧ Below w.heap.size w w' := by
  have h0 := tab_pos hT
  have HS := Lib.hid hs
  have HT := Lib.hid hT
  have HBY := Lib.hid hb
  have HLL := Lib.hid hl
  unfold maxLen at hl
  clear hs hT hb
  go_enter Tryd.func8, Tryd.ntmps8
  go_wp2_with fail
  refine (awake w HT.out h0).mono ?_
  rintro e w2 ⟨rfl, b2⟩
  have HB2 := Lib.hid b2
  have HS2 := Lib.hid ((HS.out.below b2).more b2.size)
  have HT2 := Lib.hid (HT.out.below b2)
  clear b2
  by_cases hf : 50000 < b.length
  · have d1 : decide ((50000 : Int) < (b.length : Int)) = true := by simp; omega
    go_wp2_with fail
    refine (awake w2 HT2.out (tab_pos HT2.out)).mono ?_
    rintro e w3 ⟨rfl, b3⟩
    have HB3 := Lib.hid (HB2.out.trans (b3.mono HB2.out.size))
    clear b3
    go_wp2_with fail
    go_ret
    exact ⟨rfl, HB3.out⟩
  · have d1 : decide ((50000 : Int) < (b.length : Int)) = false := by simp; omega
    go_wp2_with fail
    refine (read HBY.out HS2.out HLL.out hc HT2.out (tab_pos HT2.out)).mono ?_
    rintro e w3 ⟨C, cC, ls, Kp, cK, rfl, hpl, hcl, hk, hcC, b3⟩
    have ba := (Below.refl w3.heap.size w3).alloc (Nat.le_refl _) (.cells #[.int .i64 (1 + at_ b 0 % 8), .int .i64 (1 + at_ b 1 % 8), .int .i64 (1 + at_ b 2 % 16), .int .i64 (1 + at_ b 3 % 8), .int .i64 (at_ b 4 % 5), .int .u64 (at_ b 5), .int .u64 (longI (at_ b 6)), .slice C ls.length cC, .slice Kp (picks b).length cK] 31)
    have HX := Lib.hid (show Scr (w3.alloc (.cells #[.int .i64 (1 + at_ b 0 % 8), .int .i64 (1 + at_ b 1 % 8), .int .i64 (1 + at_ b 2 % 16), .int .i64 (1 + at_ b 3 % 8), .int .i64 (at_ b 4 % 5), .int .u64 (at_ b 5), .int .u64 (longI (at_ b 6)), .slice C ls.length cC, .slice Kp (picks b).length cK] 31)) w3.heap.size b C cC ls Kp cK from ⟨Is.new w3 _ _ rfl, hcl.keeps (Keeps.of_below ba) (Keeps.of_below ba) (Keeps.of_below ba), hk.now ba⟩)
    have HT4 := Lib.hid ((HT2.out.below b3).below ba)
    have HB4 := Lib.hid ((HB2.out.trans (b3.mono HB2.out.size)).trans (ba.mono (HB2.out.trans (b3.mono HB2.out.size)).size))
    have HPL := Lib.hid hpl
    have hcn := clN_le HBY.out
    rw [← plainC_len hpl] at hcn
    clear ba b3 hcl hk hpl
    go_wp2_with fail
    generalize w3.alloc (.cells #[.int .i64 (1 + at_ b 0 % 8), .int .i64 (1 + at_ b 1 % 8), .int .i64 (1 + at_ b 2 % 16), .int .i64 (1 + at_ b 3 % 8), .int .i64 (at_ b 4 % 5), .int .u64 (at_ b 5), .int .u64 (longI (at_ b 6)), .slice C ls.length cC, .slice Kp (picks b).length cK] 31) = w4 at *
    go_loopw [4] (fun vi wr => ∃ j : Nat, j ≤ ls.length ∧ vi = .int .i64 j ∧ Below w4.heap.size w4 wr) (fun vi _ => ls.length - (RowKit.intOf vi).toNat)
    case atStart => exact ⟨0, Nat.zero_le _, rfl, Below.refl _ _⟩
    case round =>
      obtain ⟨j, hj, rfl, hw⟩ := hrel
      have HW := Lib.hid hw
      have HXr := Lib.hid (HX.out.below hw)
      clear hw
      have x7 : wr.cell? ⟨w3.heap.size, 7, none⟩ = some (.slice C ls.length cC) := HXr.out.box.cell' rfl
      have lx := HXr.out.box.lt
      by_cases hlt : j < ls.length
      · have e1 : decide ((j : Int) < (ls.length : Int)) = true := by simp; omega
        obtain ⟨q1, o1, hC, lq1, g1⟩ := HXr.out.cls.at hlt
        have hpe := plainC_each HPL.out _ (List.getElem_mem hlt)
        have E1 := Lib.hid (HXr.out.cls.each _ (List.getElem_mem hlt))
        generalize ls[j] = r1 at *
        obtain ⟨A1, d1', qs⟩ := r1
        simp only at g1 hpe
        have E1' : Hid (Ops wr A1 qs) := E1
        obtain ⟨i0, hi0⟩ := hpe
        have HQ := Lib.hid hi0
        have hql := ops_le HBY.out i0
        rw [← hi0, List.length_map] at hql
        subst hC
        clear hi0 E1
        go_wp2_with fail
        have HG1 := Lib.hid g1
        have HXs := Lib.hid HXr.out.box
        clear x7 lx g1
        go_loopw [5] (fun vi wx => ∃ k : Nat, k ≤ qs.length ∧ vi = .int .i64 k ∧ Below wr.heap.size wr wx) (fun vi _ => qs.length - (RowKit.intOf vi).toNat)
        case atStart => exact ⟨0, Nat.zero_le _, rfl, Below.refl _ _⟩
        case round =>
          obtain ⟨k, hk, rfl, hw2⟩ := hrel
          have HW2 := Lib.hid hw2
          have sz2 := hw2.size
          clear hw2
          have x7 : wr.cell? ⟨w3.heap.size, 7, none⟩ = some (.slice (some ⟨q1, o1, none⟩) ls.length cC) := (HW2.out.cell HXs.out.lt).trans (HXs.out.cell' rfl)
          have lx := Nat.lt_of_lt_of_le HXs.out.lt sz2
          have g1 : wr.cell? ⟨q1, o1 + j, none⟩ = some (.slice A1 qs.length d1') := (HW2.out.cell lq1).trans HG1.out
          have lq1' := Nat.lt_of_lt_of_le lq1 sz2
          by_cases hlk : k < qs.length
          · have e2 : decide ((k : Int) < (qs.length : Int)) = true := by simp; omega
            obtain ⟨t1, s1, rfl, lt1, a0, a1, a2, a3, a4, a5, a6⟩ := Ops.at (E1'.out.now HW2.out) hlk
            have hsm : Small (plain qs[k]) := by
              have h1 : plain qs[k] ∈ opsAt b i0 := by rw [← HQ.out]; exact List.mem_map.2 ⟨_, List.getElem_mem hlk, rfl⟩
              obtain ⟨n, _, hn⟩ := List.mem_map.1 h1
              rw [← hn]; exact small HBY.out _
            generalize qs[k] = y at *
            obtain ⟨kd, user, id, st, pr, ttl, Au, cu, us⟩ := y
            obtain ⟨s0, s2, s3, s4, s5, s6, s7⟩ := hsm
            simp only [plain] at a0 a1 a2 a3 a4 a5 a6 s0 s2 s3 s4 s5 s7
            have s6' : ∃ k : Nat, k < 10 ∧ user = userB (k : Int) := s6
            have hus : user.size ≤ 17 := by obtain ⟨k, _, h⟩ := s6'; rw [h]; exact userB_size _
            have HM := Lib.hid (metB_all s6')
            have f0 : decide (kd < 0) = false := by simp; omega
            have f1 : decide (10 < kd) = false := by simp; omega
            have f2 : decide (id < 0) = false := by simp; omega
            have f3 : decide (3 < id) = false := by simp; omega
            have f4 : decide (st < 0) = false := by simp; omega
            have f5 : decide (10 < st) = false := by simp; omega
            have f6 : decide (pr < 0) = false := by simp; omega
            have f7 : decide (9 < pr) = false := by simp; omega
            have f8 : decide ((9 : Int) < (us.length : Int)) = false := by simp; omega
            have f9 : decide ((17 : Int) < (user.size : Int)) = false := by simp; omega
            clear s6 s6' s2 s3 s4
            go_wp2_with fail
            have HB6 := Lib.hid ((Below.refl wr.heap.size wr).alloc (Nat.le_refl _) (.cells #[.int .i64 kd, .string user, .int .i64 id, .int .i64 st, .int .i64 pr, .int .u64 ttl, .slice Au us.length cu] 49))
            have HI6 := Lib.hid (Is.new wr 49 #[.int .i64 kd, .string user, .int .i64 id, .int .i64 st, .int .i64 pr, .int .u64 ttl, .slice Au us.length cu] rfl)
            have HT6 := Lib.hid ((((HT4.out.below HW.out).below HW2.out)).below HB6.out)
            have HBx := Lib.hid ((HW.out.trans (HW2.out.mono HW.out.size)).trans (HB6.out.mono (HW.out.trans (HW2.out.mono HW.out.size)).size))
            have HWx := Lib.hid (HW2.out.trans (HB6.out.mono HW2.out.size))
            clear a0 a1 a2 a3 a4 a5 a6 x7 lx g1 lq1'
            generalize wr.alloc (.cells #[.int .i64 kd, .string user, .int .i64 id, .int .i64 st, .int .i64 pr, .int .u64 ttl, .slice Au us.length cu] 49) = w6 at *
            obtain ⟨gx, hgx⟩ : ∃ gx, wr.heap.size = gx := ⟨_, rfl⟩
            rw [hgx] at HI6 HB6
            go_loopw [7, 8] (fun vm vn wx => ∃ n : Nat, n ≤ 10 ∧ vn = .int .i64 n ∧ vm = .bool (metB user n) ∧ Below w6.heap.size w6 wx) (fun _ vn _ => 10 - (RowKit.intOf vn).toNat)
            case atStart => exact ⟨0, Nat.zero_le _, rfl, rfl, Below.refl _ _⟩
            case round =>
              obtain ⟨n, hn, rfl, rfl, hw3⟩ := hrel
              have HW3 := Lib.hid hw3
              have sz3 := hw3.size
              clear hw3
              have lgx := Nat.lt_of_lt_of_le HI6.out.lt sz3
              have y0 : wr.cell? ⟨gx, 0, none⟩ = some (.int .i64 kd) := (HW3.out.cell HI6.out.lt).trans (HI6.out.cell' rfl)
              have y1 : wr.cell? ⟨gx, 1, none⟩ = some (.string user) := (HW3.out.cell HI6.out.lt).trans (HI6.out.cell' rfl)
              have y6 : wr.cell? ⟨gx, 6, none⟩ = some (.slice Au us.length cu) := (HW3.out.cell HI6.out.lt).trans (HI6.out.cell' rfl)
              simp only [hgx] at *
              by_cases hlt3 : n < 10
              · have e3 : decide ((n : Int) < 10) = true := by simp; omega
                have HMS := Lib.hid (metB_snoc user n)
                have HU := Lib.hid (fun m => (user0 (n : Int) (by omega) (wr.drewN m) (HT6.out.below (Law.below_drewN HW3.out m))).mono (fun _ _ ⟨a, b⟩ => (⟨a, b.symm⟩ : _ ∧ wr.drewN m = _)))
                generalize userB (n : Int) = u0 at *
                cases hmb : metB user n with
                | true =>
                  go_wp2_with fail
                  go_quiet ((go_at_call 15; exact Law.quiet (HU.out _)))
                  go_wp2_with fail
                  go_roundw
                  case rel => exact ⟨n + 1, by omega, by go_num, by rw [HMS.out, hmb]; rfl, Law.below_drewN HW3.out nq⟩
                  case measure => simp [RowKit.intOf]; omega
                | false =>
                  go_wp2_with fail
                  go_quiet ((go_at_call 15; exact Law.quiet (HU.out _)))
                  go_wp2_with fail
                  go_roundw
                  case rel => exact ⟨n + 1, by omega, by go_num, by rw [HMS.out, hmb, eqB]; rfl, Law.below_drewN HW3.out nq⟩
                  case measure => simp [RowKit.intOf]; omega
              · obtain rfl : n = 10 := by omega
                have e3 : decide ((10 : Int) < 10) = false := by decide
                rw [HM.out]
                by_cases h5 : kd = 5
                · subst h5
                  go_wp2_with fail
                  go_roundw
                  case rel => exact ⟨k + 1, by omega, by go_num, HWx.out.trans (HW3.out.mono HWx.out.size)⟩
                  case measure => simp [RowKit.intOf]; omega
                · have hu0 := s7.resolve_left h5
                  have e5 : (kd == 5) = false := beq_eq_false_iff_ne.2 h5
                  have e6 : (kd != 5) = true := by simpa using h5
                  have e4 : decide ((0 : Int) < (us.length : Int)) = false := decide_eq_false (by omega)
                  go_wp2_with fail
                  go_roundw
                  case rel => exact ⟨k + 1, by omega, by go_num, HWx.out.trans (HW3.out.mono HWx.out.size)⟩
                  case measure => simp [RowKit.intOf]; omega
          · have e2 : decide ((k : Int) < (qs.length : Int)) = false := by simp; omega
            go_wp2_with fail
            go_roundw
            case rel => exact ⟨j + 1, by omega, by go_num, HW.out.trans (HW2.out.mono HW.out.size)⟩
            case measure => simp [RowKit.intOf]; omega
      · have e1 : decide ((j : Int) < (ls.length : Int)) = false := by simp; omega
        go_wp2_with fail
        go_ret
        exact ⟨rfl, HB4.out.trans (HW.out.mono HB4.out.size)⟩
set_option maxRecDepth 100000 in
set_option maxHeartbeats 4000000 in
theorem lifted (os : Os) (started : os.Started) (H : Type) (enc : TypeId × Value → H) :
    ReturnsInHanded {} Tryd.checked os 8 .any (fun w args => (Rows.ocodeOpsSpec.pre enc Tryd.prog Tryd.f8 [] false w args ∧ laidMetH Tryd.prog Rows.ocodeOpsRow.laid w) ∧ sizedMet enc Tryd.prog Tryd.f8 (OpenSpec.ofChange Rows.ocodeOpsSpec) false w args) (Rows.ocodeOpsSpec.post enc Tryd.prog Tryd.f8 false true false false) := by
  refine returnsInHanded_of_change_and (C := Tryd.checked) (X := (fun w _ => laidMetH Tryd.prog Rows.ocodeOpsRow.laid w)) (fun _ _ _ hh h => h.of_heap hh) own started (by kernel_rfl) Tryd.func8
    (ChangeSpec.witness_shaped (enc := enc) (C := Tryd.checked) (os := os) (X := (fun w _ => laidMetH Tryd.prog Rows.ocodeOpsRow.laid w)) false (World.laidAll Tryd.prog os Rows.ocodeOpsRow.laid) #[.slice none 0 0] 8 (World.laidAll_os _ _ _)
      (World.shaped_of_ZipB (by kernel_rfl) (by kernel_rfl)) (by kernel_rfl) (by kernel_rfl) (by kernel_rfl)
      (by rw [MakeChecks.laidMetH_plain _ _ _ (by kernel_rfl)]; exact laidMet_laidAll _ (by kernel_rfl) (by kernel_rfl))) ?_
  intro W base args ds gs before hval0 hW _ _ hL _
  have hval : ∀ (j : Nat) t v, Tryd.f8.params[j]? = some t → args[j]? = some v → Value.okWide Tryd.prog W .any base t v := hval0
  have hW' := hW
  obtain ⟨p, q, hA0, hV, rfl, hfz, hnd⟩ := hW
  have hA : DataW.TrodAll enc Tryd.prog W 0 (fun _ => true) true Tryd.f8.params.toList args.toList ds p := hA0
  rw [Tryd.params8] at hA hval
  obtain ⟨v0, vs0, d0, ds0, p0, q0, hargs, rfl, rfl, h0, r0⟩ := trodAll_cons hA
  obtain ⟨rfl, rfl, rfl⟩ := trodAll_nil r0
  obtain rfl : args = #[v0] := by cases args; simp_all
  obtain ⟨A0, c0, b0, rfl, hs0, hl0, hc0, hb0⟩ := Opx.open_bytes (hval 0 22 v0 rfl rfl) h0
  rw [MakeChecks.laidMetH_plain _ _ _ (by kernel_rfl)] at hL
  have HTb := Opx.tabs_of hL
  refine (walk A0 c0 b0 W hs0 hl0 hc0 hb0 HTb).mono fun e W' ⟨he, bel⟩ => ?_
  subst he
  exact ⟨_, rfl, Law.post_law laidOut (by kernel_rfl) (by kernel_rfl) Tryd.underlying4 rfl (fun ds h => by match ds, h with | [_], _ => rfl) hW' bel⟩
theorem holds : Rows.OcodeOpsSaid :=
  OpenClaim.holds_of_wide 8 Tryd.f8 rfl rfl rfl rfl rfl rfl rfl ⟨rfl, rfl, rfl, rfl, rfl⟩ rfl rfl rfl rfl rfl (by kernel_rfl) Tryd.func8 (by kernel_rfl)
    (of_decide_eq_true (by kernel_rfl)) (by unfold Func.isWrapper; first | (rw [if_pos (by decide +kernel)]; kernel_rfl) | (rw [if_neg (by decide +kernel)]; exact ⟨rfl, rfl⟩))
    (fun os started H enc _ => lifted os started H enc)
theorem proved : Rows.OcodeOpsCardSaid :=
  Claim7.holds_tied_plain_at .later [] [.data] true (true, "145f7ae6ac2e6a67618b4bf44aa04eb8b865f83cc5ac96450ba10f4f176ff81c") false holds (fun _ h => by cases h) (by kernel_rfl) (fun _ h => by cases h) ocodeOps_row_tie rfl ⟨rfl, rfl⟩ (by kernel_rfl) rfl
    (fun f fn hf hfn => by
      obtain rfl : f = 8 := Option.some.inj ((show Tryd.prog.funcNamed Rows.ocodeOpsRow.func = some 8 by kernel_rfl).symm.trans hf) |>.symm
      obtain rfl : fn = Tryd.f8 := (Option.some.inj (Tryd.func8.symm.trans hfn)).symm
      exact ⟨by kernel_rfl, fun j t ht => by
        rw [Tryd.params8] at ht
        have hm : t ∈ [22] := by simpa using Array.mem_of_getElem? ht
        have hall : ([22].all fun u => !Tryd.prog.wantsStandIn u) = true := by kernel_rfl
        exact (show Tryd.prog.wantsStandIn t = false by simpa using List.all_eq_true.1 hall t hm)⟩)
    (by kernel_rfl)
#print axioms proved
end ocodeOps
end Go.Proofs.YtlkbfnpncomifaaDoor
