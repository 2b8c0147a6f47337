/-
  Of texts: what is put, and not lost, comes out once, in order; as many as there is room for. For every room and all texts, no condition.
-/
import Derived.Test.YtcpaenoennlboaaRing01
import Derived.Test.YtcpaenoennlboaaRingTD
import Derived.Deep.LoopGhost
namespace Go.Proofs.Ytcpaenoennlboaa.ringOrder
open Go.RowKit Go.ChangeShapes Go.WideShapes Go.ChangeAt

theorem put_next (us : List ByteArray) (i k : Nat) (h : i < us.length) : Law.putL k (us.take (min i k)) us[i] = us.take (min (i + 1) k) ∧ (decide (k < i) || decide (k ≤ (us.take (min i k)).length)) = decide (k < i + 1) ∧ decide ((us.take (min i k)).length < k) = decide (i < k) := by
  have hl : (us.take (min i k)).length = min i k := by simp; omega
  refine ⟨?_, ?_, ?_⟩
  · unfold Law.putL
    rw [hl]
    by_cases hk : i < k
    · rw [if_pos (by omega), show min i k = i by omega, show min (i + 1) k = i + 1 by omega, List.take_succ_eq_append_getElem h]
    · rw [if_neg (by omega), show min i k = k by omega, show min (i + 1) k = k by omega]
  · rw [hl, Bool.eq_iff_iff]; simp; omega
  · rw [hl, Bool.eq_iff_iff]; simp; omega

set_option maxRecDepth 100000 in
set_option maxHeartbeats 1600000 in
theorem walk (us : List ByteArray) (A : Option Addr) (c : Nat) (n : Nat) (hn : n ≤ 255) (w : World) (hs : Law.Seq w 0 w.heap.size A (us.map .string)) (hl : us.length ≤ 400) (hz : ∀ u ∈ us, u.size ≤ maxLen) :
    Calls Try.prog 5 #[.int .u8 (n : Int), .slice A us.length c] w fun e w' => e = .returned (.bool true) ∧ Below w.heap.size w w' := by
  have HZ := Lib.hid hz
  have HS := Lib.hid hs
  have d1 : decide (400 < (us.length : Int)) = false := by simp; omega
  obtain ⟨k, hk⟩ : ∃ k : Nat, n % 20 = k := ⟨_, rfl⟩
  have k1 : Hid ((n : Int) % 20 = (k : Int)) := by show _ = _; omega
  have k2 : k < 20 := by omega
  clear hz hs
  go_enter Try.func5, Try.ntmps5
  go_wp2_with fail
  refine (Ring.awake _).mono ?_
  rintro e w1 ⟨rfl, B1⟩
  have HB1 := Lib.hid B1
  have s1 := B1.size
  clear B1
  go_wp2_with fail
  rw [k1.out]
  clear k1 hk
  refine (RingT.new (k : Int) w1).mono ?_
  rintro e w2 ⟨rfl, rfl⟩
  rw [Int.toNat_natCast]
  have B2 := Lib.hid (HB1.out.alloc s1 (.cells #[.int .i64 (k : Int), .slice none 0 0, .bool false] 53))
  have R2 : Hid (RingT.At (w1.alloc (.cells #[.int .i64 (k : Int), .slice none 0 0, .bool false] 53)) w.heap.size (fun g => g = w1.heap.size) w1.heap.size k [] false) := Law.Ring.new 53 9 w1 w.heap.size k s1 rfl
  have s2 : w.heap.size ≤ (w1.alloc (.cells #[.int .i64 (k : Int), .slice none 0 0, .bool false] 53)).heap.size := by simp; omega
  generalize w1.alloc (.cells #[.int .i64 (k : Int), .slice none 0 0, .bool false] 53) = w2 at *
  generalize w1.heap.size = b at *
  clear HB1
  go_wp2_with fail
  go_loopw [7] (fun i wr => ∃ j : Nat, j ≤ us.length ∧ i = .int .i64 j ∧ (∃ S, RingT.At wr w.heap.size S b k (us.take (min j k)) (decide (k < j))) ∧ Below w.heap.size w wr) (fun i _ => us.length - (intOf i).toNat)
  case atStart => exact ⟨0, Nat.zero_le _, rfl, ⟨_, by simpa using R2.out⟩, B2.out⟩
  case round =>
    clear B2 R2 s2
    obtain ⟨j, hj, rfl, ⟨S, hR⟩, hB⟩ := hrel
    have HR := Lib.hid hR
    have HB := Lib.hid hB
    have sz := hB.size
    clear hR hB
    by_cases hlt : j < us.length
    · have HP := Lib.hid (put_next us j k hlt)
      have hlen : (us.take (min j k)).length ≤ 1000 := by simp; omega
      obtain ⟨g, off, e, _, hg, hc0⟩ := HS.out.str hlt
      have hc := (HB.out.cell (p := ⟨g, off + j, none⟩) hg).trans hc0
      subst e
      clear hc0
      generalize us[j] = u at *
      go_wp2_with fail
      refine (RingT.put u _ _ wr w.heap.size S b k HR.out sz hlen).mono ?_
      rintro e w3 ⟨rfl, S3, h3, t3, s3⟩
      rw [HP.out.1, HP.out.2.1] at h3
      rw [HP.out.2.2]
      have B3 := Lib.hid (t3.below HB.out (fun q hq => (HR.out.ok q hq).1) sz)
      have H3 := Lib.hid h3
      clear h3 t3 s3 HR HB
      have d2 : decide ((j : Int) < (k : Int)) = decide (j < k) := by rw [Bool.eq_iff_iff]; simp
      go_wp2_with fail
      go_roundw
      case rel => exact ⟨j + 1, by omega, by go_num, ⟨S3, H3.out⟩, B3.out⟩
      case measure => simp [intOf]; omega
    · have hj' : j = us.length := by omega
      subst hj'
      have hlen : (us.take (min us.length k)).length ≤ 1000 := by simp; omega
      go_wp2_with fail
      refine (RingT.drain HR.out hlen).mono ?_
      rintro e w3 ⟨A3, c3, rfl, hc3, h3, r3, t3⟩
      have B3 := Lib.hid (t3.below HB.out (fun q hq => by subst hq; exact (HR.out.ok _ HR.out.inn).1) sz)
      have H3 := Lib.hid h3
      have H4 : Hid (∀ i : Nat, i < (us.take (min us.length k)).length → i < us.length ∧ (us.take (min us.length k))[i]? = us[i]?) := fun i h => by
        simp at h
        refine ⟨by omega, ?_⟩
        rw [List.getElem?_take, if_pos (by omega)]
      have hm : (us.take (min us.length k)).length = min us.length k := by simp
      generalize us.take (min us.length k) = zs at *
      clear h3 r3 t3 HR HB
      by_cases hk : us.length ≤ k
      · have d3 : decide (k < us.length) = false := by simp; omega
        have d4 : decide ((k : Int) < (us.length : Int)) = false := by simp; omega
        have hm' : zs.length = us.length := by omega
        go_wp2_with fail
        go_loopw [10] (fun i wr => ∃ j : Nat, j ≤ us.length ∧ i = .int .i64 j ∧ Law.Drawn w3 wr) (fun i _ => us.length - (intOf i).toNat)
        case atStart => exact ⟨0, Nat.zero_le _, rfl, Law.Drawn.refl _⟩
        case round =>
          obtain ⟨j, hj, rfl, hD⟩ := hrel
          have HD := Lib.hid hD
          clear hD
          by_cases hlt : j < us.length
          · obtain ⟨h5, h6⟩ := H4.out j (by omega)
            obtain ⟨b1, o1, e1, _, l1, q1⟩ := (HD.out.seq H3.out).str (i := j) (by omega)
            obtain ⟨b2, o2, e2, _, l2, q2⟩ := (HD.out.seq (HS.out.below B3.out)).str h5
            subst e1 e2
            have e3 : zs[j]'(by omega) = us[j] := by
              rw [List.getElem?_eq_getElem (by omega), List.getElem?_eq_getElem h5] at h6
              exact Option.some.inj h6
            rw [e3] at q1
            clear e3 h6
            generalize us[j] = u at *
            go_wp2_with fail
            go_quiet (fail)
            go_wp2_with fail
            go_roundw
            case rel => exact ⟨j + 1, by omega, by go_num, HD.out.drewN _⟩
            case measure => simp [intOf]; omega
          · go_wp2_with fail
            go_ret
            exact ⟨rfl, HD.out.below B3.out⟩
      · have d3 : decide (k < us.length) = true := by simp; omega
        have d4 : decide ((k : Int) < (us.length : Int)) = true := by simp; omega
        have hm' : zs.length = k := by omega
        go_wp2_with fail
        go_loopw [10] (fun i wr => ∃ j : Nat, j ≤ k ∧ i = .int .i64 j ∧ Law.Drawn w3 wr) (fun i _ => k - (intOf i).toNat)
        case atStart => exact ⟨0, Nat.zero_le _, rfl, Law.Drawn.refl _⟩
        case round =>
          obtain ⟨j, hj, rfl, hD⟩ := hrel
          have HD := Lib.hid hD
          clear hD
          by_cases hlt : j < k
          · obtain ⟨h5, h6⟩ := H4.out j (by omega)
            obtain ⟨b1, o1, e1, _, l1, q1⟩ := (HD.out.seq H3.out).str (i := j) (by omega)
            obtain ⟨b2, o2, e2, _, l2, q2⟩ := (HD.out.seq (HS.out.below B3.out)).str h5
            subst e1 e2
            have e3 : zs[j]'(by omega) = us[j] := by
              rw [List.getElem?_eq_getElem (by omega), List.getElem?_eq_getElem h5] at h6
              exact Option.some.inj h6
            rw [e3] at q1
            clear e3 h6
            generalize us[j] = u at *
            go_wp2_with fail
            go_quiet (fail)
            go_wp2_with fail
            go_roundw
            case rel => exact ⟨j + 1, by omega, by go_num, HD.out.drewN _⟩
            case measure => simp [intOf]; omega
          · go_wp2_with fail
            go_ret
            exact ⟨rfl, HD.out.below B3.out⟩

set_option maxRecDepth 100000 in
set_option maxHeartbeats 400000 in
theorem walkLong (us : List ByteArray) (A : Option Addr) (c : Nat) (n : Int) (w : World) (hl : 400 < us.length) :
    Calls Try.prog 5 #[.int .u8 n, .slice A us.length c] w fun e w' => e = .returned (.bool true) ∧ Below w.heap.size w w' := by
  have d1 : decide (400 < (us.length : Int)) = true := by simp; omega
  clear hl
  go_enter Try.func5, Try.ntmps5
  go_wp2_with fail
  refine (Ring.awake _).mono ?_
  rintro e w1 ⟨rfl, B1⟩
  have HB1 := Lib.hid B1
  clear B1
  go_wp2_with fail
  refine (Ring.awake _).mono ?_
  rintro e w2 ⟨rfl, B2⟩
  have HB2 := Lib.hid (HB1.out.trans (B2.mono HB1.out.size))
  clear B2 HB1
  go_wp2_with fail
  go_ret
  exact ⟨rfl, HB2.out⟩

theorem walk0 (us : List ByteArray) (A : Option Addr) (c : Nat) (n : Int) (hn : (Lit.int .u8 n).wf = true) (w : World) (hs : Law.Seq w 0 w.heap.size A (us.map .string)) (hz : ∀ u ∈ us, u.size ≤ maxLen) :
    Calls Try.prog 5 #[.int .u8 n, .slice A us.length c] w fun e w' => e = .returned (.bool true) ∧ Below w.heap.size w w' := by
  have := bounds_u8 hn
  obtain ⟨k, rfl⟩ := Int.eq_ofNat_of_zero_le this.1
  by_cases h : us.length ≤ 400
  · exact walk us A c k (by omega) w hs h hz
  · exact walkLong us A c _ w (by omega)

set_option maxRecDepth 100000 in
theorem lifted (os : Os) (started : os.Started) (H : Type) (enc : TypeId × Value → H) :
    ReturnsInHanded {} Try.checked os 5 .any (Rows.ringOrderSpec.pre6 enc Try.prog Try.f5 Rows.ringOrderRow.domain false) (Rows.ringOrderSpec.post enc Try.prog Try.f5 false true false false) := by
  refine returnsInHanded_of_change (C := Try.checked) own started (by kernel_rfl) Try.func5
    (ChangeSpec.witness6 (enc := enc) (C := Try.checked) false ⟨#[], #[.int .u8 0, .slice none 0 0], []⟩ 8 (by kernel_rfl) (by kernel_rfl) (by kernel_rfl) (by kernel_rfl)) ?_
  intro W base args ds gs before hval0 hW hcnd _
  have hval : ∀ (j : Nat) t v, Try.f5.params[j]? = some t → args[j]? = some v → Value.okWide Try.prog W .any base t v := hval0
  have hW' := hW
  obtain ⟨p, q, hA0, hV, rfl, hfz, hnd⟩ := hW
  have hA : DataW.TrodAll enc Try.prog W 0 (fun _ => true) true Try.f5.params.toList args.toList ds p := hA0
  rw [Try.params5] at hA hval
  obtain ⟨v0, vs0, d0, ds0, p0, q0, hargs, rfl, rfl, h0, r0⟩ := trodAll_cons hA
  obtain ⟨v1, vs1, d1, ds1, p1, q1, rfl, rfl, rfl, h1, r1⟩ := trodAll_cons r0
  obtain ⟨rfl, rfl, rfl⟩ := trodAll_nil r1
  obtain rfl : args = #[v0, v1] := by cases args; simp_all
  obtain ⟨a0, rfl, rfl, rfl, w0⟩ := open_int Try.underlying5 (hval 0 5 v0 rfl rfl) h0
  obtain ⟨A, c, us, rfl, hs, hl, hc, hz⟩ := Law.open_texts Try.underlying42 Try.underlying9 (by kernel_rfl) (hval 1 42 v1 rfl rfl) h1
  refine (walk0 us A c a0 w0 W hs hz).mono fun e W' ⟨he, bel⟩ => ?_
  subst he
  exact ⟨_, rfl, Law.post_law laidOut (by kernel_rfl) (by kernel_rfl) Try.underlying4 rfl (fun ds h => by match ds, h with | [_, _], _ => rfl) hW' bel⟩

theorem proved : Rows.RingOrderSaid :=
  OpenClaim.holds_of_wide 5 Try.f5 rfl rfl rfl rfl rfl rfl rfl ⟨rfl, rfl, rfl, rfl, rfl⟩ rfl rfl rfl rfl rfl (by kernel_rfl) Try.func5 (by kernel_rfl)
    (of_decide_eq_true (by kernel_rfl)) (by unfold Func.isWrapper; rw [if_neg (by decide +kernel)]; exact ⟨rfl, rfl⟩)
    (fun os started H enc _ => lifted os started H enc)
#print axioms proved
end Go.Proofs.Ytcpaenoennlboaa.ringOrder
