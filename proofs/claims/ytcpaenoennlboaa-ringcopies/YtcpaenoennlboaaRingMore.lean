/-
  A queue with more room has what one with less has, and more behind it. For every two rooms and all numbers, no condition.
-/
import Derived.Test.YtcpaenoennlboaaRing02
import Derived.Test.YtcpaenoennlboaaNums
import Derived.Deep.LoopGhost
namespace Go.Proofs.Ytcpaenoennlboaa.ringMore
open Go.RowKit Go.ChangeShapes Go.WideShapes Go.ChangeAt

theorem put_next (us : List Int) (i k : Nat) (h : i < us.length) : Law.putL k (us.take (min i k)) us[i] = us.take (min (i + 1) k) ∧ (decide (k < i) || decide (k ≤ (us.take (min i k)).length)) = decide (k < i + 1) ∧ decide ((us.take (min i k)).length < k) = decide (i < k) := by
  have hl : (us.take (min i k)).length = min i k := by simp; omega
  refine ⟨?_, ?_, ?_⟩
  · unfold Law.putL
    rw [hl]
    by_cases hk : i < k
    · rw [if_pos (by omega), show min i k = i by omega, show min (i + 1) k = i + 1 by omega, List.take_succ_eq_append_getElem h]
    · rw [if_neg (by omega), show min i k = k by omega, show min (i + 1) k = k by omega]
  · rw [hl, Bool.eq_iff_iff]; simp; omega
  · rw [hl, Bool.eq_iff_iff]; simp; omega

set_option maxRecDepth 100000 in
set_option maxHeartbeats 1600000 in
theorem walk (us : List Int) (A : Option Addr) (c : Nat) (n m : Nat) (hn : n ≤ 255) (hm : m ≤ 255) (w : World) (hs : Law.Seq w 0 w.heap.size A (us.map (.int .i64))) (hl : us.length ≤ 400) :
    Calls Try.prog 7 #[.int .u8 (n : Int), .int .u8 (m : Int), .slice A us.length c] w fun e w' => e = .returned (.bool true) ∧ Below w.heap.size w w' := by
  have HS := Lib.hid hs
  have d1 : decide (400 < (us.length : Int)) = false := by simp; omega
  obtain ⟨k, hk⟩ : ∃ k : Nat, n % 20 = k := ⟨_, rfl⟩
  obtain ⟨q, hq⟩ : ∃ q : Nat, m % 20 = q := ⟨_, rfl⟩
  have k1 : Hid ((n : Int) % 20 = (k : Int)) := by show _ = _; omega
  have q1 : Hid ((m : Int) % 20 = (q : Int)) := by show _ = _; omega
  have k2 : k < 20 := by omega
  have q2 : q < 20 := by omega
  clear hs
  go_enter Try.func7, Try.ntmps7
  go_wp2_with fail
  refine (Ring.awake _).mono ?_
  rintro e w1 ⟨rfl, B1⟩
  have HB1 := Lib.hid B1
  have s1 := B1.size
  clear B1
  go_wp2_with fail
  rw [k1.out]
  clear k1 hk
  refine (RingI.new (k : Int) w1).mono ?_
  rintro e w2 ⟨rfl, rfl⟩
  rw [Int.toNat_natCast]
  go_wp2_with fail
  rw [q1.out]
  clear q1 hq
  rw [show (k : Int) + (q : Int) = ((k + q : Nat) : Int) from by simp]
  refine (RingI.new ((k + q : Nat) : Int) _).mono ?_
  rintro e w2 ⟨rfl, rfl⟩
  rw [Int.toNat_natCast]
  have HT := Lib.hid (Ring.Two.new HB1.out k (k + q))
  simp only [World.size_alloc]
  generalize (w1.alloc (.cells #[.int .i64 (k : Int), .slice none 0 0, .bool false] 51)).alloc (.cells #[.int .i64 ((k + q : Nat) : Int), .slice none 0 0, .bool false] 51) = w2 at *
  generalize w1.heap.size + 1 = b at *
  generalize w1.heap.size = a at *
  have hkr : k ≤ k + q := by omega
  have hr40 : k + q < 40 := by omega
  generalize k + q = r at *
  clear HB1 s1 q2
  go_wp2_with fail
  go_loopw [10] (fun i wr => ∃ j : Nat, j ≤ us.length ∧ i = .int .i64 j ∧ Ring.Two w wr a b k r (us.take (min j k)) (us.take (min j r)) (decide (k < j)) (decide (r < j))) (fun i _ => us.length - (intOf i).toNat)
  case atStart => exact ⟨0, Nat.zero_le _, rfl, by simpa using HT.out⟩
  case round =>
    clear HT
    obtain ⟨j, hj, rfl, hR⟩ := hrel
    have HR := Lib.hid hR
    clear hR
    have hlA : (us.take (min j k)).length ≤ 1000 := by simp; omega
    have hlB : (us.take (min j r)).length ≤ 1000 := by simp; omega
    by_cases hlt : j < us.length
    · have PA := Lib.hid (put_next us j k hlt)
      have PB := Lib.hid (put_next us j r hlt)
      obtain ⟨g, off, e, _, hg, hc0⟩ := HS.out.int hlt
      have hc := (HR.out.1.cell (p := ⟨g, off + j, none⟩) hg).trans hc0
      subst e
      clear hc0
      generalize us[j] = u at *
      have sz := HR.out.1.size
      go_wp2_with fail
      refine (HR.out.put u hlA).mono ?_
      rintro e w3 ⟨rfl, h3⟩
      rw [PA.out.1, PA.out.2.1] at h3
      rw [PA.out.2.2]
      have hc3 := (h3.1.cell (p := ⟨g, off + j, none⟩) hg).trans ((HR.out.1.cell (p := ⟨g, off + j, none⟩) hg).symm.trans hc)
      have H3 := Lib.hid h3
      clear h3 HR
      by_cases hk : j < k
      · have d2 : decide (j < k) = true := by simpa using hk
        rw [d2]
        go_wp2_with fail
        refine (H3.out.swap.put u hlB).mono ?_
        rintro e w4 ⟨rfl, h4⟩
        rw [PB.out.1, PB.out.2.1] at h4
        rw [PB.out.2.2]
        have H4 := Lib.hid h4.swap
        clear h4 H3
        have d3 : decide (j < r) = true := by simp; omega
        rw [d3]
        go_wp2_with fail
        refine (H4.out.lost).mono ?_
        rintro e w' ⟨rfl, rfl⟩
        have d4 : decide (k < j + 1) = false := by simp; omega
        rw [d4]
        go_wp2_with fail
        go_roundw
        case rel => exact ⟨j + 1, by omega, by go_num, H4.out⟩
        case measure => simp [intOf]; omega
      · have d2 : decide (j < k) = false := by simpa using hk
        rw [d2]
        go_wp2_with fail
        refine (H3.out.lost).mono ?_
        rintro e w' ⟨rfl, rfl⟩
        have d4 : decide (k < j + 1) = true := by simp; omega
        rw [d4]
        go_wp2_with fail
        refine (H3.out.swap.put u hlB).mono ?_
        rintro e w4 ⟨rfl, h4⟩
        rw [PB.out.1, PB.out.2.1] at h4
        have H4 := Lib.hid h4.swap
        clear h4 H3
        go_wp2_with fail
        go_roundw
        case rel => exact ⟨j + 1, by omega, by go_num, H4.out⟩
        case measure => simp [intOf]; omega
    · have hj' : j = us.length := by omega
      subst hj'
      have sz := HR.out.1.size
      have hx : (us.take (min us.length k)) = (us.take (min us.length r)).take (us.take (min us.length k)).length := by
        rw [List.take_take, List.length_take]; congr 1; omega
      have hle : (us.take (min us.length k)).length ≤ (us.take (min us.length r)).length := by simp; omega
      have HX := Lib.hid hx
      clear hx
      generalize us.take (min us.length k) = xs at *
      generalize us.take (min us.length r) = ys at *
      go_wp2_with fail
      refine (HR.out.drain hlA).mono ?_
      rintro e w3 ⟨A3, c3, rfl, hc3, h3, r3, t3⟩
      have R3 := Lib.hid r3
      have H3 := Lib.hid h3
      have lb := HR.out.ltB
      have sz3 := t3.size
      clear h3 r3 t3 HR
      go_wp2_with fail
      refine (R3.out.swap.drain hlB).mono ?_
      rintro e w4 ⟨A4, c4, rfl, hc4, h4, r4, t4⟩
      have H3' := Lib.hid (((t4.seq H3.out (Nat.le_refl _) (fun g hg => .inl (by omega))).more t4.size).from_ (Nat.zero_le _))
      have H4 := Lib.hid (h4.from_ (Nat.zero_le _))
      have B4 := Lib.hid r4.1
      clear h4 r4 t4 H3 R3
      have d5 : decide ((xs.length : Int) ≤ (ys.length : Int)) = true := by simpa using hle
      go_wp2_with fail
      have HY : Hid (Law.Seq w4 0 w4.heap.size A4 (xs.map (.int .i64))) := by
        have := H4.out.part (A' := A4) (i := 0) (n := xs.length) (fun b off h _ _ => by simpa using h)
        rw [List.drop_zero, ← List.map_take, ← HX.out] at this
        exact this
      refine (Ring.same xs xs A4 A3 c4 c3 w4 HY.out H3'.out hlA hlA).mono ?_
      rintro e w5 ⟨rfl, D5⟩
      have HD := Lib.hid D5
      clear D5
      have d6 : decide (xs = xs) = true := by simp
      rw [d6]
      go_wp2_with fail
      go_ret
      exact ⟨rfl, HD.out.below B4.out⟩

set_option maxRecDepth 100000 in
set_option maxHeartbeats 400000 in
theorem walkLong (us : List Int) (A : Option Addr) (c : Nat) (n m : Int) (w : World) (hl : 400 < us.length) :
    Calls Try.prog 7 #[.int .u8 n, .int .u8 m, .slice A us.length c] w fun e w' => e = .returned (.bool true) ∧ Below w.heap.size w w' := by
  have d1 : decide (400 < (us.length : Int)) = true := by simp; omega
  clear hl
  go_enter Try.func7, Try.ntmps7
  go_wp2_with fail
  refine (Ring.awake _).mono ?_
  rintro e w1 ⟨rfl, B1⟩
  have HB1 := Lib.hid B1
  clear B1
  go_wp2_with fail
  refine (Ring.awake _).mono ?_
  rintro e w2 ⟨rfl, B2⟩
  have HB2 := Lib.hid (HB1.out.trans (B2.mono HB1.out.size))
  clear B2 HB1
  go_wp2_with fail
  go_ret
  exact ⟨rfl, HB2.out⟩

theorem walk0 (us : List Int) (A : Option Addr) (c : Nat) (n m : Int) (hn : (Lit.int .u8 n).wf = true) (hm : (Lit.int .u8 m).wf = true) (w : World) (hs : Law.Seq w 0 w.heap.size A (us.map (.int .i64))) :
    Calls Try.prog 7 #[.int .u8 n, .int .u8 m, .slice A us.length c] w fun e w' => e = .returned (.bool true) ∧ Below w.heap.size w w' := by
  have h1 := bounds_u8 hn
  have h2 := bounds_u8 hm
  obtain ⟨k, rfl⟩ := Int.eq_ofNat_of_zero_le h1.1
  obtain ⟨q, rfl⟩ := Int.eq_ofNat_of_zero_le h2.1
  by_cases h : us.length ≤ 400
  · exact walk us A c k q (by omega) (by omega) w hs h
  · exact walkLong us A c _ _ w (by omega)

set_option maxRecDepth 100000 in
theorem lifted (os : Os) (started : os.Started) (H : Type) (enc : TypeId × Value → H) :
    ReturnsInHanded {} Try.checked os 7 .any (Rows.ringMoreSpec.pre6 enc Try.prog Try.f7 Rows.ringMoreRow.domain false) (Rows.ringMoreSpec.post enc Try.prog Try.f7 false true false false) := by
  refine returnsInHanded_of_change (C := Try.checked) own started (by kernel_rfl) Try.func7
    (ChangeSpec.witness6 (enc := enc) (C := Try.checked) false ⟨#[], #[.int .u8 0, .int .u8 0, .slice none 0 0], []⟩ 8 (by kernel_rfl) (by kernel_rfl) (by kernel_rfl) (by kernel_rfl)) ?_
  intro W base args ds gs before hval0 hW hcnd _
  have hval : ∀ (j : Nat) t v, Try.f7.params[j]? = some t → args[j]? = some v → Value.okWide Try.prog W .any base t v := hval0
  have hW' := hW
  obtain ⟨p, q, hA0, hV, rfl, hfz, hnd⟩ := hW
  have hA : DataW.TrodAll enc Try.prog W 0 (fun _ => true) true Try.f7.params.toList args.toList ds p := hA0
  rw [Try.params7] at hA hval
  obtain ⟨v0, vs0, d0, ds0, p0, q0, hargs, rfl, rfl, h0, r0⟩ := trodAll_cons hA
  obtain ⟨v1, vs1, d1, ds1, p1, q1, rfl, rfl, rfl, h1, r1⟩ := trodAll_cons r0
  obtain ⟨v2, vs2, d2, ds2, p2, q2, rfl, rfl, rfl, h2, r2⟩ := trodAll_cons r1
  obtain ⟨rfl, rfl, rfl⟩ := trodAll_nil r2
  obtain rfl : args = #[v0, v1, v2] := by cases args; simp_all
  obtain ⟨a0, rfl, rfl, rfl, w0⟩ := open_int Try.underlying5 (hval 0 5 v0 rfl rfl) h0
  obtain ⟨a1, rfl, rfl, rfl, w1⟩ := open_int Try.underlying5 (hval 1 5 v1 rfl rfl) h1
  obtain ⟨A, c, us, rfl, hs, hl, hc, hz⟩ := Law.open_nums Try.underlying26 Try.underlying3 (by kernel_rfl) (hval 2 26 v2 rfl rfl) h2
  refine (walk0 us A c a0 a1 w0 w1 W hs).mono fun e W' ⟨he, bel⟩ => ?_
  subst he
  exact ⟨_, rfl, Law.post_law laidOut (by kernel_rfl) (by kernel_rfl) Try.underlying4 rfl (fun ds h => by match ds, h with | [_, _, _], _ => rfl) hW' bel⟩

theorem proved : Rows.RingMoreSaid :=
  OpenClaim.holds_of_wide 7 Try.f7 rfl rfl rfl rfl rfl rfl rfl ⟨rfl, rfl, rfl, rfl, rfl⟩ rfl rfl rfl rfl rfl (by kernel_rfl) Try.func7 (by kernel_rfl)
    (of_decide_eq_true (by kernel_rfl)) (by unfold Func.isWrapper; rw [if_neg (by decide +kernel)]; exact ⟨rfl, rfl⟩)
    (fun os started H enc _ => lifted os started H enc)
#print axioms proved
end Go.Proofs.Ytcpaenoennlboaa.ringMore
