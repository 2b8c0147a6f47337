/-
  An emptied queue is as a new one. For every room and all numbers, no condition.
-/
import Derived.Test.YtcpaenoennlboaaRingMore
import Derived.Deep.RegionHeld3
namespace Go.Proofs.Ytcpaenoennlboaa.ringAnew
open Go.RowKit Go.ChangeShapes Go.WideShapes Go.ChangeAt

set_option maxRecDepth 100000 in
set_option maxHeartbeats 3200000 in
theorem walk (us vs : List Int) (A V : Option Addr) (c d : Nat) (n : Nat) (hn : n ≤ 255) (w : World) (hs : Law.Seq w 0 w.heap.size A (us.map (.int .i64))) (hv : Law.Seq w 0 w.heap.size V (vs.map (.int .i64))) (hl : us.length ≤ 400) (hlv : vs.length ≤ 400) :
    Calls Try.prog 6 #[.int .u8 (n : Int), .slice A us.length c, .slice V vs.length d] w fun e w' => e = .returned (.bool true) ∧ Below w.heap.size w w' := by
  have HS := Lib.hid hs
  have HV := Lib.hid hv
  have d1 : decide (400 < (us.length : Int)) = false := by simp; omega
  have d2 : decide (400 < (vs.length : Int)) = false := by simp; omega
  obtain ⟨k, hk⟩ : ∃ k : Nat, n % 20 = k := ⟨_, rfl⟩
  have k1 : Hid ((n : Int) % 20 = (k : Int)) := by show _ = _; omega
  have k2 : k < 20 := by omega
  clear hs hv
  go_enter Try.func6, Try.ntmps6
  go_wp2_with fail
  refine (Ring.awake _).mono ?_
  rintro e w1 ⟨rfl, B1⟩
  have HB1 := Lib.hid B1
  clear B1
  go_wp2_with fail
  rw [k1.out]
  clear k1 hk
  refine (RingI.new (k : Int) w1).mono ?_
  rintro e w2 ⟨rfl, rfl⟩
  rw [Int.toNat_natCast]
  go_wp2_with fail
  refine (RingI.new (k : Int) _).mono ?_
  rintro e w2 ⟨rfl, rfl⟩
  rw [Int.toNat_natCast]
  have HT := Lib.hid (Ring.Two.new HB1.out k k)
  simp only [World.size_alloc]
  generalize (w1.alloc (.cells #[.int .i64 (k : Int), .slice none 0 0, .bool false] 51)).alloc (.cells #[.int .i64 (k : Int), .slice none 0 0, .bool false] 51) = w2 at *
  generalize w1.heap.size + 1 = b at *
  generalize w1.heap.size = a at *
  clear HB1
  go_wp2_with fail
  go_loopw [10] (fun i wr => ∃ j : Nat, j ≤ us.length ∧ i = .int .i64 j ∧ Ring.Two w wr a b k k (us.take (min j k)) [] (decide (k < j)) false) (fun i _ => us.length - (intOf i).toNat)
  case atStart => exact ⟨0, Nat.zero_le _, rfl, by simpa using HT.out⟩
  case round =>
    clear HT
    obtain ⟨j, hj, rfl, hR⟩ := hrel
    have HR := Lib.hid hR
    clear hR
    have hlA : (us.take (min j k)).length ≤ 1000 := by simp; omega
    by_cases hlt : j < us.length
    · have PA := Lib.hid (ringMore.put_next us j k hlt)
      obtain ⟨g, off, e, _, hg, hc0⟩ := HS.out.int hlt
      have hc := (HR.out.1.cell (p := ⟨g, off + j, none⟩) hg).trans hc0
      subst e
      clear hc0
      generalize us[j] = u at *
      have sz := HR.out.1.size
      go_wp2_with fail
      refine (HR.out.put u hlA).mono ?_
      rintro e w3 ⟨rfl, h3⟩
      rw [PA.out.1, PA.out.2.1] at h3
      have H3 := Lib.hid h3
      clear h3 HR
      go_wp2_with fail
      go_roundw
      case rel => exact ⟨j + 1, by omega, by go_num, H3.out⟩
      case measure => simp [intOf]; omega
    · go_wp2_with fail
      refine (HR.out.drain hlA).mono ?_
      rintro e w3 ⟨A3, c3, rfl, hc3, h3, r3, t3⟩
      have R3 := Lib.hid r3
      clear h3 r3 t3 HR
      go_wp2_with fail
      go_loopw [11] (fun i wr => ∃ j : Nat, j ≤ vs.length ∧ i = .int .i64 j ∧ Ring.Two w wr a b k k (vs.take (min j k)) (vs.take (min j k)) (decide (k < j)) (decide (k < j))) (fun i _ => vs.length - (intOf i).toNat)
      case atStart => exact ⟨0, Nat.zero_le _, rfl, by simpa using R3.out⟩
      case round =>
        clear R3 hlA hc3 hlt hj
        obtain ⟨j, hj, rfl, hR⟩ := hrel
        have HR := Lib.hid hR
        clear hR
        have hlA : (vs.take (min j k)).length ≤ 1000 := by simp; omega
        by_cases hlt : j < vs.length
        · have PA := Lib.hid (ringMore.put_next vs j k hlt)
          obtain ⟨g, off, e, _, hg, hc0⟩ := HV.out.int hlt
          have hc := (HR.out.1.cell (p := ⟨g, off + j, none⟩) hg).trans hc0
          subst e
          generalize vs[j] = u at *
          have HC0 := Lib.hid hc0
          clear hc0
          have sz := HR.out.1.size
          generalize vs.take (min j k) = zs at *
          generalize hz' : vs.take (min (j + 1) k) = zs' at PA
          have HZ' := Lib.hid hz'
          clear hz'
          go_upto_region 13 with (fail)
          go_cut [68] (fun v wx => v = .bool false ∧ Ring.Two w wx a b k k zs' zs' (decide (k < j + 1)) (decide (k < j + 1)))
          case first =>
            go_region_held3 (fun w' => w'.cell? ⟨g, off + j, none⟩ = some (.int .i64 u)) (first | exact hc | exact hc4 | exact hc3) (first
              | (go_at_call_of 13 (Value.pointer (some ⟨a, 0, none⟩)); refine (Ring.Two.put (by exact HR.out.drewN 1) u hlA).mono ?_; rintro e w3 ⟨rfl, h3⟩; rw [PA.out.1, PA.out.2.1] at h3; have hc3 := (h3.1.cell (p := ⟨g, off + j, none⟩) hg).trans HC0.out; have H3 := Lib.hid h3; clear h3)
              | (go_at_call_of 13 (Value.pointer (some ⟨b, 0, none⟩)); refine (Ring.Two.put (H3.out.swap) u hlA).mono ?_; rintro e w4 ⟨rfl, h4⟩; rw [PA.out.1, PA.out.2.1] at h4; have hc4 := (h4.1.cell (p := ⟨g, off + j, none⟩) hg).trans HC0.out; have H4 := Lib.hid h4.swap; clear h4))
            go_wp2_with fail
            go_meet
            exact ⟨by simp, H4.out⟩
          case rest =>
            obtain ⟨rfl, hT⟩ := hcut
            have HT := Lib.hid hT
            clear hT HR
            go_wp2_with fail
            go_roundw
            case rel => exact ⟨j + 1, by omega, by go_num, by rw [HZ'.out]; exact HT.out⟩
            case measure => simp [intOf]; omega
        · generalize vs.take (min j k) = zs at *
          generalize decide (k < j) = lo at *
          go_wp2_with fail
          refine (HR.out.drain hlA).mono ?_
          rintro e w3 ⟨A3, c3, rfl, hc3, h3, r3, t3⟩
          have R3 := Lib.hid r3
          have H3 := Lib.hid h3
          have lb := HR.out.ltB
          have sz3 := t3.size
          clear h3 r3 t3 HR
          go_wp2_with fail
          refine (R3.out.swap.drain hlA).mono ?_
          rintro e w4 ⟨A4, c4, rfl, hc4, h4, r4, t4⟩
          have H3' := Lib.hid (((t4.seq H3.out (Nat.le_refl _) (fun g hg => .inl (by omega))).more t4.size).from_ (Nat.zero_le _))
          have H4 := Lib.hid (h4.from_ (Nat.zero_le _))
          have B4 := Lib.hid r4
          clear h4 r4 t4 H3 R3
          go_wp2_with fail
          refine (Ring.same zs zs A3 A4 c3 c4 w4 H3'.out H4.out hlA hlA).mono ?_
          rintro e w5 ⟨rfl, D5⟩
          obtain ⟨nd, rfl⟩ := D5
          have HD := Lib.hid (B4.out.drewN nd)
          clear B4 H3' H4
          generalize w4.drewN nd = w5 at *
          have d6 : decide (zs = zs) = true := by simp
          rw [d6]
          have d7 : (lo == lo) = true := by simp
          go_wp2_with fail
          refine HD.out.swap.len.mono ?_
          rintro e w' ⟨rfl, rfl⟩
          go_wp2_with fail
          refine HD.out.len.mono ?_
          rintro e w' ⟨rfl, rfl⟩
          go_wp2_with fail
          go_ret
          exact ⟨Ring.ret_bool (by simp), HD.out.1⟩

set_option maxRecDepth 100000 in
set_option maxHeartbeats 400000 in
theorem walkLong (us vs : List Int) (A V : Option Addr) (c d : Nat) (n : Int) (w : World) (hlo : 400 < us.length ∨ us.length ≤ 400 ∧ 400 < vs.length) :
    Calls Try.prog 6 #[.int .u8 n, .slice A us.length c, .slice V vs.length d] w fun e w' => e = .returned (.bool true) ∧ Below w.heap.size w w' := by
  rcases hlo with hl | ⟨hl, hm⟩
  · have d1 : decide (400 < (us.length : Int)) = true := by simp; omega
    clear hl
    go_enter Try.func6, Try.ntmps6
    go_wp2_with fail
    refine (Ring.awake _).mono ?_
    rintro e w1 ⟨rfl, B1⟩
    have HB1 := Lib.hid B1
    clear B1
    go_wp2_with fail
    refine (Ring.awake _).mono ?_
    rintro e w2 ⟨rfl, B2⟩
    have HB2 := Lib.hid (HB1.out.trans (B2.mono HB1.out.size))
    clear B2 HB1
    go_wp2_with fail
    go_ret
    exact ⟨rfl, HB2.out⟩
  · have d1 : decide (400 < (us.length : Int)) = false := by simp; omega
    have d2 : decide (400 < (vs.length : Int)) = true := by simp; omega
    clear hl hm
    go_enter Try.func6, Try.ntmps6
    go_wp2_with fail
    refine (Ring.awake _).mono ?_
    rintro e w1 ⟨rfl, B1⟩
    have HB1 := Lib.hid B1
    clear B1
    go_wp2_with fail
    refine (Ring.awake _).mono ?_
    rintro e w2 ⟨rfl, B2⟩
    have HB2 := Lib.hid (HB1.out.trans (B2.mono HB1.out.size))
    clear B2 HB1
    go_wp2_with fail
    go_ret
    exact ⟨rfl, HB2.out⟩

theorem walk0 (us vs : List Int) (A V : Option Addr) (c d : Nat) (n : Int) (hn : (Lit.int .u8 n).wf = true) (w : World) (hs : Law.Seq w 0 w.heap.size A (us.map (.int .i64))) (hv : Law.Seq w 0 w.heap.size V (vs.map (.int .i64))) :
    Calls Try.prog 6 #[.int .u8 n, .slice A us.length c, .slice V vs.length d] w fun e w' => e = .returned (.bool true) ∧ Below w.heap.size w w' := by
  have h1 := bounds_u8 hn
  obtain ⟨k, rfl⟩ := Int.eq_ofNat_of_zero_le h1.1
  by_cases h : us.length ≤ 400
  · by_cases h' : vs.length ≤ 400
    · exact walk us vs A V c d k (by omega) w hs hv h h'
    · exact walkLong us vs A V c d _ w (.inr ⟨h, by omega⟩)
  · exact walkLong us vs A V c d _ w (.inl (by omega))

set_option maxRecDepth 100000 in
theorem lifted (os : Os) (started : os.Started) (H : Type) (enc : TypeId × Value → H) :
    ReturnsInHanded {} Try.checked os 6 .any (Rows.ringAnewSpec.pre6 enc Try.prog Try.f6 Rows.ringAnewRow.domain false) (Rows.ringAnewSpec.post enc Try.prog Try.f6 false true false false) := by
  refine returnsInHanded_of_change (C := Try.checked) own started (by kernel_rfl) Try.func6
    (ChangeSpec.witness6 (enc := enc) (C := Try.checked) false ⟨#[], #[.int .u8 0, .slice none 0 0, .slice none 0 0], []⟩ 8 (by kernel_rfl) (by kernel_rfl) (by kernel_rfl) (by kernel_rfl)) ?_
  intro W base args ds gs before hval0 hW hcnd _
  have hval : ∀ (j : Nat) t v, Try.f6.params[j]? = some t → args[j]? = some v → Value.okWide Try.prog W .any base t v := hval0
  have hW' := hW
  obtain ⟨p, q, hA0, hV, rfl, hfz, hnd⟩ := hW
  have hA : DataW.TrodAll enc Try.prog W 0 (fun _ => true) true Try.f6.params.toList args.toList ds p := hA0
  rw [Try.params6] at hA hval
  obtain ⟨v0, vs0, d0, ds0, p0, q0, hargs, rfl, rfl, h0, r0⟩ := trodAll_cons hA
  obtain ⟨v1, vs1, d1, ds1, p1, q1, rfl, rfl, rfl, h1, r1⟩ := trodAll_cons r0
  obtain ⟨v2, vs2, d2, ds2, p2, q2, rfl, rfl, rfl, h2, r2⟩ := trodAll_cons r1
  obtain ⟨rfl, rfl, rfl⟩ := trodAll_nil r2
  obtain rfl : args = #[v0, v1, v2] := by cases args; simp_all
  obtain ⟨a0, rfl, rfl, rfl, w0⟩ := open_int Try.underlying5 (hval 0 5 v0 rfl rfl) h0
  obtain ⟨A, c, us, rfl, hs, hl, hc, hz⟩ := Law.open_nums Try.underlying26 Try.underlying3 (by kernel_rfl) (hval 1 26 v1 rfl rfl) h1
  obtain ⟨V, d, vs, rfl, hv, hlv, hcv, hzv⟩ := Law.open_nums Try.underlying26 Try.underlying3 (by kernel_rfl) (hval 2 26 v2 rfl rfl) h2
  refine (walk0 us vs A V c d a0 w0 W hs hv).mono fun e W' ⟨he, bel⟩ => ?_
  subst he
  exact ⟨_, rfl, Law.post_law laidOut (by kernel_rfl) (by kernel_rfl) Try.underlying4 rfl (fun ds h => by match ds, h with | [_, _, _], _ => rfl) hW' bel⟩

theorem proved : Rows.RingAnewSaid :=
  OpenClaim.holds_of_wide 6 Try.f6 rfl rfl rfl rfl rfl rfl rfl ⟨rfl, rfl, rfl, rfl, rfl⟩ rfl rfl rfl rfl rfl (by kernel_rfl) Try.func6 (by kernel_rfl)
    (of_decide_eq_true (by kernel_rfl)) (by unfold Func.isWrapper; rw [if_neg (by decide +kernel)]; exact ⟨rfl, rfl⟩)
    (fun os started H enc _ => lifted os started H enc)
#print axioms proved
end Go.Proofs.Ytcpaenoennlboaa.ringAnew
