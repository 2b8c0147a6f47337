/-
  A copy is alike, and apart: what befalls the one isn't seen by the other. For every room and all numbers, no condition.
-/
import Derived.Test.YtcpaenoennlboaaRingMore
import Derived.Test.YtcpaenoennlboaaRingIC
namespace Go.Proofs.Ytcpaenoennlboaa.ringCopies
open Go.RowKit Go.ChangeShapes Go.WideShapes Go.ChangeAt

/-- what the copy holds when j more were put -/
def more (k : Nat) (zs vs : List Int) (j : Nat) : List Int := (zs ++ vs.take j).take k
theorem more_zero (k : Nat) (zs vs : List Int) (h : zs.length ≤ k) : more k zs vs 0 = zs := by simp [more, List.take_of_length_le h]
theorem more_len (k : Nat) (zs vs : List Int) (j : Nat) (hj : j ≤ vs.length) : (more k zs vs j).length = min k (zs.length + j) := by simp [more]; omega
theorem more_next (k : Nat) (zs vs : List Int) (lo : Bool) (j : Nat) (h : j < vs.length) : Law.putL k (more k zs vs j) vs[j] = more k zs vs (j + 1) ∧ ((lo || decide (k < zs.length + j)) || decide (k ≤ (more k zs vs j).length)) = (lo || decide (k < zs.length + (j + 1))) := by
  have hl := more_len k zs vs j (by omega)
  refine ⟨?_, ?_⟩
  · unfold Law.putL
    rw [hl]
    have e1 : zs ++ vs.take (j + 1) = (zs ++ vs.take j) ++ [vs[j]] := by rw [List.take_succ_eq_append_getElem h, List.append_assoc]
    have e2 : (zs ++ vs.take j).length = zs.length + j := by simp; omega
    unfold more
    rw [e1]
    generalize zs ++ vs.take j = l at *
    by_cases hk : zs.length + j < k
    · rw [if_pos (by omega), List.take_of_length_le (l := l) (by omega), List.take_of_length_le (l := l ++ [vs[j]]) (by rw [List.length_append, e2]; simp; omega)]
    · rw [if_neg (by omega), List.take_append_of_le_length (l₁ := l) (by omega)]
  · rw [hl, Bool.eq_iff_iff]
    cases lo <;> simp
    omega
theorem more_part (k : Nat) (zs vs : List Int) (h : zs.length ≤ k) (j : Nat) : (more k zs vs j).take zs.length = zs := by
  unfold more
  rw [List.take_take, Nat.min_eq_left h, List.take_append_of_le_length (Nat.le_refl _), List.take_of_length_le (Nat.le_refl _)]

set_option maxRecDepth 100000 in
set_option maxHeartbeats 3200000 in
theorem walk (us vs : List Int) (A V : Option Addr) (c d : Nat) (n : Nat) (hn : n ≤ 255) (w : World) (hs : Law.Seq w 0 w.heap.size A (us.map (.int .i64))) (hv : Law.Seq w 0 w.heap.size V (vs.map (.int .i64))) (hl : us.length ≤ 400) (hlv : vs.length ≤ 400) :
    Calls Try.prog 4 #[.int .u8 (n : Int), .slice A us.length c, .slice V vs.length d] w fun e w' => e = .returned (.bool true) ∧ Below w.heap.size w w' := by
  have HS := Lib.hid hs
  have HV := Lib.hid hv
  have d1 : decide (400 < (us.length : Int)) = false := by simp; omega
  have d2 : decide (400 < (vs.length : Int)) = false := by simp; omega
  obtain ⟨k, hk⟩ : ∃ k : Nat, n % 20 = k := ⟨_, rfl⟩
  have k1 : Hid ((n : Int) % 20 = (k : Int)) := by show _ = _; omega
  have k2 : k < 20 := by omega
  clear hs hv hk
  go_enter Try.func4, Try.ntmps4
  go_wp2_with fail
  refine (Ring.awake _).mono ?_
  rintro e w1 ⟨rfl, B1⟩
  have HB1 := Lib.hid B1
  have s1 := B1.size
  clear B1
  go_wp2_with fail
  rw [k1.out]
  refine (RingI.new (k : Int) w1).mono ?_
  rintro e w2 ⟨rfl, rfl⟩
  rw [Int.toNat_natCast]
  have B2 := Lib.hid (HB1.out.alloc s1 (.cells #[.int .i64 (k : Int), .slice none 0 0, .bool false] 51))
  have R2 : Hid (RingI.At (w1.alloc (.cells #[.int .i64 (k : Int), .slice none 0 0, .bool false] 51)) w.heap.size (fun g => g = w1.heap.size) w1.heap.size k [] false) := Law.Ring.new 51 3 w1 w.heap.size k s1 rfl
  generalize w1.alloc (.cells #[.int .i64 (k : Int), .slice none 0 0, .bool false] 51) = w2 at *
  generalize w1.heap.size = b at *
  clear HB1 s1
  go_wp2_with fail
  go_loopw [8] (fun i wr => ∃ j : Nat, j ≤ us.length ∧ i = .int .i64 j ∧ (∃ S, RingI.At wr w.heap.size S b k (us.take (min j k)) (decide (k < j))) ∧ Below w.heap.size w wr) (fun i _ => us.length - (intOf i).toNat)
  case atStart => exact ⟨0, Nat.zero_le _, rfl, ⟨_, by simpa using R2.out⟩, B2.out⟩
  case round =>
    clear B2 R2
    obtain ⟨j, hj, rfl, ⟨S, hR⟩, hB⟩ := hrel
    have HR := Lib.hid hR
    have HB := Lib.hid hB
    have sz := hB.size
    clear hR hB
    have hlA : (us.take (min j k)).length ≤ 1000 := by simp; omega
    by_cases hlt : j < us.length
    · have PA := Lib.hid (ringMore.put_next us j k hlt)
      obtain ⟨g, off, e, _, hg, hc0⟩ := HS.out.int hlt
      have hc := (HB.out.cell (p := ⟨g, off + j, none⟩) hg).trans hc0
      subst e
      clear hc0
      generalize us[j] = u at *
      go_wp2_with fail
      refine (RingI.put u _ _ wr w.heap.size S b k HR.out sz hlA).mono ?_
      rintro e w3 ⟨rfl, S3, h3, t3, s3⟩
      rw [PA.out.1, PA.out.2.1] at h3
      have B3 := Lib.hid (t3.below HB.out (fun q hq => (HR.out.ok q hq).1) sz)
      have H3 := Lib.hid h3
      clear h3 t3 s3 HR HB
      go_wp2_with fail
      go_roundw
      case rel => exact ⟨j + 1, by omega, by go_num, ⟨S3, H3.out⟩, B3.out⟩
      case measure => simp [intOf]; omega
    · have hzk : (us.take (min j k)).length ≤ k := by simp; omega
      generalize us.take (min j k) = zs at *
      generalize decide (k < j) = lo at *
      go_wp2_with fail
      refine (RingI.copy HR.out sz hlA).mono ?_
      rintro e w3 ⟨b', S', rfl, h3, hS, B3⟩
      have HT : Hid (Ring.Two w w3 b b' k k zs zs lo lo) := ⟨HB.out.trans (B3.mono sz), S, S', HR.out.below B3, h3, fun q h h' => by have := (HR.out.ok q h).2; have := hS q h'; omega⟩
      clear h3 hS B3 HR HB sz
      go_wp2_with fail
      refine HT.out.lost.mono ?_
      rintro e w' ⟨rfl, rfl⟩
      go_wp2_with fail
      refine HT.out.len.mono ?_
      rintro e w' ⟨rfl, rfl⟩
      go_wp2_with fail
      go_loopw [12] (fun i wr => ∃ j : Nat, j ≤ vs.length ∧ i = .int .i64 j ∧ Ring.Two w wr b b' k k zs (more k zs vs j) lo (lo || decide (k < zs.length + j))) (fun i _ => vs.length - (intOf i).toNat)
      case atStart => exact ⟨0, Nat.zero_le _, rfl, by rw [more_zero _ _ _ hzk, show decide (k < zs.length + 0) = false from by simp; omega, Bool.or_false]; exact HT.out⟩
      case round =>
        clear HT hlt hj
        obtain ⟨j, hj, rfl, hR⟩ := hrel
        have HR := Lib.hid hR
        clear hR
        have hlB : (more k zs vs j).length ≤ 1000 := by rw [more_len _ _ _ _ hj]; omega
        have sz := HR.out.1.size
        by_cases hlt : j < vs.length
        · have PB := Lib.hid (more_next k zs vs lo j hlt)
          obtain ⟨g, off, e, _, hg, hc0⟩ := HV.out.int hlt
          have hc := (HR.out.1.cell (p := ⟨g, off + j, none⟩) hg).trans hc0
          subst e
          clear hc0
          generalize vs[j] = u at *
          go_wp2_with fail
          refine (HR.out.swap.put u hlB).mono ?_
          rintro e w3 ⟨rfl, h3⟩
          rw [PB.out.1, PB.out.2] at h3
          have H3 := Lib.hid h3.swap
          clear h3 HR
          go_wp2_with fail
          go_roundw
          case rel => exact ⟨j + 1, by omega, by go_num, H3.out⟩
          case measure => simp [intOf]; omega
        · have hj' : j = vs.length := by omega
          subst hj'
          have HX := Lib.hid (more_part k zs vs hzk vs.length)
          have hle : zs.length ≤ (more k zs vs vs.length).length := by rw [more_len _ _ _ _ hj]; omega
          generalize more k zs vs vs.length = ys at *
          go_wp2_with fail
          refine HR.out.len.mono ?_
          rintro e w' ⟨rfl, rfl⟩
          go_wp2_with fail
          refine HR.out.lost.mono ?_
          rintro e w' ⟨rfl, rfl⟩
          go_wp2_with fail
          refine (HR.out.drain hlA).mono ?_
          rintro e w3 ⟨A3, c3, rfl, hc3, h3, r3, t3⟩
          have R3 := Lib.hid r3
          have H3 := Lib.hid h3
          have lb := HR.out.ltB
          have sz3 := t3.size
          clear h3 r3 t3 HR
          go_wp2_with fail
          refine (R3.out.swap.drain hlB).mono ?_
          rintro e w4 ⟨A4, c4, rfl, hc4, h4, r4, t4⟩
          have H3' := Lib.hid (((t4.seq H3.out (Nat.le_refl _) (fun g hg => .inl (by omega))).more t4.size).from_ (Nat.zero_le _))
          have H4 := Lib.hid (h4.from_ (Nat.zero_le _))
          have B4 := Lib.hid r4.swap
          clear h4 r4 t4 H3 R3
          have d5 : decide ((ys.length : Int) < (zs.length : Int)) = false := by simp; omega
          go_wp2_with fail
          have HY : Hid (Law.Seq w4 0 w4.heap.size A4 (zs.map (.int .i64))) := by
            have := H4.out.part (A' := A4) (i := 0) (n := zs.length) (fun b off h _ _ => by simpa using h)
            rw [List.drop_zero, ← List.map_take, HX.out] at this
            exact this
          refine (Ring.same zs zs A4 A3 c4 c3 w4 HY.out H3'.out hlA hlA).mono ?_
          rintro e w5 ⟨rfl, D5⟩
          obtain ⟨nd, rfl⟩ := D5
          have HD := Lib.hid (B4.out.drewN nd)
          clear B4 H3' H4 HY
          generalize w4.drewN nd = w5 at *
          have d6 : decide (zs = zs) = true := by simp
          rw [d6]
          have d7 : decide (((n : Int) % 20) < (zs.length : Int) + (vs.length : Int)) = decide (k < zs.length + vs.length) := by rw [k1.out, Bool.eq_iff_iff]; simp; omega
          cases lo
          · go_wp2_with fail
            refine HD.out.len.mono ?_
            rintro e w' ⟨rfl, rfl⟩
            go_wp2_with fail
            refine HD.out.swap.len.mono ?_
            rintro e w' ⟨rfl, rfl⟩
            go_wp2_with fail
            refine HD.out.lost.mono ?_
            rintro e w' ⟨rfl, rfl⟩
            go_wp2_with fail
            refine HD.out.swap.lost.mono ?_
            rintro e w' ⟨rfl, rfl⟩
            go_wp2_with fail
            go_ret
            exact ⟨Ring.ret_bool (by simp), HD.out.1⟩
          · go_wp2_with fail
            refine HD.out.len.mono ?_
            rintro e w' ⟨rfl, rfl⟩
            go_wp2_with fail
            refine HD.out.swap.len.mono ?_
            rintro e w' ⟨rfl, rfl⟩
            go_wp2_with fail
            refine HD.out.lost.mono ?_
            rintro e w' ⟨rfl, rfl⟩
            go_wp2_with fail
            refine HD.out.swap.lost.mono ?_
            rintro e w' ⟨rfl, rfl⟩
            go_wp2_with fail
            go_ret
            exact ⟨Ring.ret_bool (by simp), HD.out.1⟩

set_option maxRecDepth 100000 in
set_option maxHeartbeats 400000 in
theorem walkLong (us vs : List Int) (A V : Option Addr) (c d : Nat) (n : Int) (w : World) (hlo : 400 < us.length ∨ us.length ≤ 400 ∧ 400 < vs.length) :
    Calls Try.prog 4 #[.int .u8 n, .slice A us.length c, .slice V vs.length d] w fun e w' => e = .returned (.bool true) ∧ Below w.heap.size w w' := by
  rcases hlo with hl | ⟨hl, hm⟩
  · have d1 : decide (400 < (us.length : Int)) = true := by simp; omega
    clear hl
    go_enter Try.func4, Try.ntmps4
    go_wp2_with fail
    refine (Ring.awake _).mono ?_
    rintro e w1 ⟨rfl, B1⟩
    have HB1 := Lib.hid B1
    clear B1
    go_wp2_with fail
    refine (Ring.awake _).mono ?_
    rintro e w2 ⟨rfl, B2⟩
    have HB2 := Lib.hid (HB1.out.trans (B2.mono HB1.out.size))
    clear B2 HB1
    go_wp2_with fail
    go_ret
    exact ⟨rfl, HB2.out⟩
  · have d1 : decide (400 < (us.length : Int)) = false := by simp; omega
    have d2 : decide (400 < (vs.length : Int)) = true := by simp; omega
    clear hl hm
    go_enter Try.func4, Try.ntmps4
    go_wp2_with fail
    refine (Ring.awake _).mono ?_
    rintro e w1 ⟨rfl, B1⟩
    have HB1 := Lib.hid B1
    clear B1
    go_wp2_with fail
    refine (Ring.awake _).mono ?_
    rintro e w2 ⟨rfl, B2⟩
    have HB2 := Lib.hid (HB1.out.trans (B2.mono HB1.out.size))
    clear B2 HB1
    go_wp2_with fail
    go_ret
    exact ⟨rfl, HB2.out⟩

theorem walk0 (us vs : List Int) (A V : Option Addr) (c d : Nat) (n : Int) (hn : (Lit.int .u8 n).wf = true) (w : World) (hs : Law.Seq w 0 w.heap.size A (us.map (.int .i64))) (hv : Law.Seq w 0 w.heap.size V (vs.map (.int .i64))) :
    Calls Try.prog 4 #[.int .u8 n, .slice A us.length c, .slice V vs.length d] w fun e w' => e = .returned (.bool true) ∧ Below w.heap.size w w' := by
  have h1 := bounds_u8 hn
  obtain ⟨k, rfl⟩ := Int.eq_ofNat_of_zero_le h1.1
  by_cases h : us.length ≤ 400
  · by_cases h' : vs.length ≤ 400
    · exact walk us vs A V c d k (by omega) w hs hv h h'
    · exact walkLong us vs A V c d _ w (.inr ⟨h, by omega⟩)
  · exact walkLong us vs A V c d _ w (.inl (by omega))

set_option maxRecDepth 100000 in
theorem lifted (os : Os) (started : os.Started) (H : Type) (enc : TypeId × Value → H) :
    ReturnsInHanded {} Try.checked os 4 .any (Rows.ringCopiesSpec.pre6 enc Try.prog Try.f4 Rows.ringCopiesRow.domain false) (Rows.ringCopiesSpec.post enc Try.prog Try.f4 false true false false) := by
  refine returnsInHanded_of_change (C := Try.checked) own started (by kernel_rfl) Try.func4
    (ChangeSpec.witness6 (enc := enc) (C := Try.checked) false ⟨#[], #[.int .u8 0, .slice none 0 0, .slice none 0 0], []⟩ 8 (by kernel_rfl) (by kernel_rfl) (by kernel_rfl) (by kernel_rfl)) ?_
  intro W base args ds gs before hval0 hW hcnd _
  have hval : ∀ (j : Nat) t v, Try.f4.params[j]? = some t → args[j]? = some v → Value.okWide Try.prog W .any base t v := hval0
  have hW' := hW
  obtain ⟨p, q, hA0, hV, rfl, hfz, hnd⟩ := hW
  have hA : DataW.TrodAll enc Try.prog W 0 (fun _ => true) true Try.f4.params.toList args.toList ds p := hA0
  rw [Try.params4] at hA hval
  obtain ⟨v0, vs0, d0, ds0, p0, q0, hargs, rfl, rfl, h0, r0⟩ := trodAll_cons hA
  obtain ⟨v1, vs1, d1, ds1, p1, q1, rfl, rfl, rfl, h1, r1⟩ := trodAll_cons r0
  obtain ⟨v2, vs2, d2, ds2, p2, q2, rfl, rfl, rfl, h2, r2⟩ := trodAll_cons r1
  obtain ⟨rfl, rfl, rfl⟩ := trodAll_nil r2
  obtain rfl : args = #[v0, v1, v2] := by cases args; simp_all
  obtain ⟨a0, rfl, rfl, rfl, w0⟩ := open_int Try.underlying5 (hval 0 5 v0 rfl rfl) h0
  obtain ⟨A, c, us, rfl, hs, hl, hc, hz⟩ := Law.open_nums Try.underlying26 Try.underlying3 (by kernel_rfl) (hval 1 26 v1 rfl rfl) h1
  obtain ⟨V, d, vs, rfl, hv, hlv, hcv, hzv⟩ := Law.open_nums Try.underlying26 Try.underlying3 (by kernel_rfl) (hval 2 26 v2 rfl rfl) h2
  refine (walk0 us vs A V c d a0 w0 W hs hv).mono fun e W' ⟨he, bel⟩ => ?_
  subst he
  exact ⟨_, rfl, Law.post_law laidOut (by kernel_rfl) (by kernel_rfl) Try.underlying4 rfl (fun ds h => by match ds, h with | [_, _, _], _ => rfl) hW' bel⟩

theorem proved : Rows.RingCopiesSaid :=
  OpenClaim.holds_of_wide 4 Try.f4 rfl rfl rfl rfl rfl rfl rfl ⟨rfl, rfl, rfl, rfl, rfl⟩ rfl rfl rfl rfl rfl (by kernel_rfl) Try.func4 (by kernel_rfl)
    (of_decide_eq_true (by kernel_rfl)) (by unfold Func.isWrapper; rw [if_neg (by decide +kernel)]; exact ⟨rfl, rfl⟩)
    (fun os started H enc _ => lifted os started H enc)
#print axioms proved
end Go.Proofs.Ytcpaenoennlboaa.ringCopies
