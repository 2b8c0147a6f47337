/-
  A client that is told as many events as there is room for loses none; with more those behind are lost; others aren't touched. For all numbers, no condition.
-/
import Derived.Test.YtkmodjdgcdcihaaFeed05
namespace Go.Proofs.Ytkmodjdgcdcihaa.feedLost
open Go.RowKit Go.ChangeShapes Go.WideShapes Go.ChangeAt
open Feed Go.Law
def bob : ByteArray := ⟨#[98, 111, 98]⟩
/-- client a alone watches ann -/
def one (a : Nat) : St := { St.zero with wat := upd St.zero.wat a [(ann, 0)] }
theorem one_first (a : Nat) : { St.zero with wat := upd St.zero.wat a (putK OmapU.lt ann 0 (St.zero.wat a)) } = one a := rfl
/-- the event with the number i -/
def ev (i : Nat) : Ev := ⟨ann, 0, 0, 0, 0, 0, (i : Int), (i : Int)⟩
/-- behind j of them -/
def told (room a j : Nat) : St := { one a with que := upd St.zero.que a ((List.range (min j room)).map ev), los := upd St.zero.los a (decide (room < j)) }
theorem told_zero (room a : Nat) : told room a 0 = one a := by
  unfold told one
  have h1 : upd St.zero.que a ((List.range (min 0 room)).map ev) = St.zero.que := by funext i; unfold upd; split <;> simp [St.zero]
  have h2 : upd St.zero.los a (decide (room < 0)) = St.zero.los := by funext i; unfold upd; split <;> simp [St.zero]
  rw [h1, h2]
theorem St.ext {s t : St} (h1 : s.wat = t.wat) (h2 : ∀ k, s.que k = t.que k) (h3 : ∀ k, s.los k = t.los k) : s = t := by
  obtain ⟨a, b, c⟩ := s
  obtain ⟨a', b', c'⟩ := t
  simp only at h1
  subst h1
  obtain rfl : b = b' := funext h2
  obtain rfl : c = c' := funext h3
  rfl
theorem has_ann (a k : Nat) (q : Nat → List Ev) (o : Nat → Bool) : St.has ⟨(one a).wat, q, o⟩ k ann = decide (k = a) := by
  unfold St.has one upd
  simp only
  by_cases h : k = a
  · simp [h, getK]
  · simp [h, St.zero, getK]
theorem has_bob (a k : Nat) (q : Nat → List Ev) (o : Nat → Bool) : St.has ⟨(one a).wat, q, o⟩ k bob = false := by
  unfold St.has one upd
  simp only
  by_cases h : k = a
  · simp only [h, if_true, getK]; decide
  · simp [h, St.zero, getK]
theorem putL_range (room j : Nat) : putL room ((List.range (min j room)).map ev) (ev j) = (List.range (min (j + 1) room)).map ev := by
  unfold putL
  simp only [List.length_map, List.length_range]
  by_cases h : j < room
  · rw [if_pos (by omega), show min j room = j by omega, show min (j + 1) room = j + 1 by omega, List.range_succ, List.map_append]; rfl
  · rw [if_neg (by omega), show min j room = room by omega, show min (j + 1) room = room by omega]
theorem told_que (room a j : Nat) : (told room a j).que a = (List.range (min j room)).map ev := by
  show upd _ a _ a = _
  rw [upd_same]
theorem told_los (room a j : Nat) : (told room a j).los a = decide (room < j) := by
  show upd _ a _ a = _
  rw [upd_same]
theorem told_next (room : Nat) {a : Nat} (ha : a < 8) (j : Nat) : (told room a j).tell room [⟨ann, 0, 0, 0, 0, 0, (j : Int)⟩, ⟨bob, 0, 0, 0, 0, 0, 0⟩] (j : Int) = told room a (j + 1) := by
  have e : (told room a j).tell room [⟨ann, 0, 0, 0, 0, 0, (j : Int)⟩, ⟨bob, 0, 0, 0, 0, 0, 0⟩] (j : Int) = ((told room a j).upto room (ev j) 8).upto room ⟨bob, 0, 0, 0, 0, 0, 0, (j : Int)⟩ 8 := by simp only [St.tell, List.foldl_cons, List.foldl_nil]; rfl
  have hb : ∀ k, ((told room a j).upto room (ev j) 8).has k bob = false := fun k => by rw [upto_has]; exact has_bob a k _ _
  have hn : ∀ k, (told room a j).has k ann = decide (k = a) := fun k => has_ann a k _ _
  rw [e]
  refine St.ext ?_ ?_ ?_
  · rw [upto_wat, upto_wat]; rfl
  · intro k
    rw [upto_que, if_neg (fun h => by have := h.2; rw [hb] at this; cases this), upto_que]
    show (if k < 8 ∧ (told room a j).has k ann = true then _ else _) = upd _ a _ k
    by_cases h : k = a
    · subst h
      rw [if_pos ⟨ha, by rw [hn]; simp⟩, upd_same]
      show putL room (upd _ k _ k) _ = _
      rw [upd_same, putL_range]
    · rw [if_neg (fun h' => by have := h'.2; rw [hn] at this; simp at this; exact h this), upd_other _ _ h]
      show upd _ a _ k = _
      rw [upd_other _ _ h]
  · intro k
    rw [upto_los, if_neg (fun h => by have := h.2; rw [hb] at this; cases this), upto_los]
    show (if k < 8 ∧ (told room a j).has k ann = true then _ else _) = upd _ a _ k
    by_cases h : k = a
    · subst h
      rw [if_pos ⟨ha, by rw [hn]; simp⟩, upd_same]
      show ((told room k j).los k || decide (room ≤ ((told room k j).que k).length)) = _
      rw [told_los, told_que, List.length_map, List.length_range, Bool.eq_iff_iff]
      simp
      omega
    · rw [if_neg (fun h' => by have := h'.2; rw [hn] at this; simp at this; exact h this), upd_other _ _ h]
      show upd _ a _ k = _
      rw [upd_other _ _ h]
theorem told_other (room j : Nat) {a b : Nat} (h : b ≠ a) : (told room a j).que b = [] ∧ (told room a j).los b = false := by
  constructor
  · show upd _ a _ b = _
    rw [upd_other _ _ h]; rfl
  · show upd _ a _ b = _
    rw [upd_other _ _ h]; rfl
theorem told_le (room a j k : Nat) : ((told room a j).que k).length ≤ room := by
  by_cases h : k = a
  · subst h
    rw [told_que]; simp; omega
  · rw [(told_other room j h).1]; simp
theorem drained_other (room j : Nat) {a b : Nat} (h : b ≠ a) : { told room a j with que := upd (told room a j).que b [], los := upd (told room a j).los b false } = told room a j := by
  refine St.ext rfl (fun k => ?_) (fun k => ?_)
  · show upd _ b _ k = _
    by_cases e : k = b
    · subst e; rw [upd_same, (told_other room j h).1]
    · rw [upd_other _ _ e]
  · show upd _ b _ k = _
    by_cases e : k = b
    · subst e; rw [upd_same, (told_other room j h).2]
    · rw [upd_other _ _ e]
set_option maxRecDepth 100000 in
set_option maxHeartbeats 4000000 in
theorem walk (r0 n0 w0 o0 : Nat) (h1 : r0 ≤ 255) (h2 : n0 ≤ 255) (h3 : w0 ≤ 255) (h4 : o0 ≤ 255) (w : World) :
    Calls Try.prog 7 #[.int .u8 (r0 : Int), .int .u8 (n0 : Int), .int .u8 (w0 : Int), .int .u8 (o0 : Int)] w fun e w' => e = .returned (.bool true) ∧ Below w.heap.size w w' := by
  obtain ⟨k, hk⟩ : ∃ k : Nat, r0 % 17 = k := ⟨_, rfl⟩
  have k1 : Hid ((r0 : Int) % 17 = (k : Int)) := by show _ = _; omega
  have k2 : k < 17 := by omega
  obtain ⟨m, hm⟩ : ∃ m : Nat, n0 % 40 = m := ⟨_, rfl⟩
  have m1 : Hid ((n0 : Int) % 40 = (m : Int)) := by show _ = _; omega
  have m2 : m < 40 := by omega
  obtain ⟨a, ha⟩ : ∃ a : Nat, w0 % 8 = a := ⟨_, rfl⟩
  have a1 : Hid ((w0 : Int) % 8 = (a : Int)) := by show _ = _; omega
  have a2 : a < 8 := by omega
  obtain ⟨b, hb⟩ : ∃ b : Nat, o0 % 8 = b := ⟨_, rfl⟩
  have b1 : Hid ((o0 : Int) % 8 = (b : Int)) := by show _ = _; omega
  have b2 : b < 8 := by omega
  clear hk hm ha hb
  go_enter Try.func7, Try.ntmps7
  go_wp2_with fail
  refine (awake w).mono ?_
  rintro e w1 ⟨rfl, hB⟩
  have HB := Lib.hid hB
  have sb := hB.size
  clear hB
  go_wp2_with fail
  rw [k1.out, m1.out, a1.out, b1.out]
  clear k1 m1 a1 b1
  refine (new (k : Int) w1 sb).mono ?_
  rintro e w2 ⟨rfl, hF, hb⟩
  rw [Int.toNat_natCast] at hF
  have HF := Lib.hid hF
  have HB2 := Lib.hid (HB.out.trans (hb.mono sb))
  have sb2 := HB2.out.size
  clear hF hb HB
  generalize w1.heap.size = f at *
  go_wp2_with fail
  refine (watchE (k := a) HF.out rfl a2 ann (by simp [St.zero]) (one_first a)).mono ?_
  rintro e w3 ⟨rfl, hF, hW⟩
  have HB3 := Lib.hid (hW.below (fun n h => (HF.out.ok n h).1) HB2.out sb2)
  have HF3 := Lib.hid hF
  have sb3 := HB3.out.size
  rw [← told_zero k a] at HF3
  clear hF hW HF HB2
  go_wp2_with fail
  go_loopw [14] (fun i wr => ∃ j : Nat, j ≤ m ∧ i = .int .i64 j ∧ ∃ S, Fed wr w.heap.size S f k (told k a j) ∧ Below w.heap.size w wr) (fun i _ => m - (intOf i).toNat)
  case atStart => exact ⟨0, Nat.zero_le _, rfl, _, HF3.out, HB3.out⟩
  case round =>
    clear HF3 HB3
    obtain ⟨j, hj, rfl, S, hF, hB⟩ := hrel
    have HF := Lib.hid hF
    have HB := Lib.hid hB
    have sz := hB.size
    clear hF hB
    by_cases hlt : j < m
    · have d2 : decide ((j : Int) < (m : Int)) = true := by simp; omega
      go_wp2_with fail
      refine (tellLit HF.out sz [⟨ann, 0, 0, 0, 0, 0, (j : Int)⟩, ⟨bob, 0, 0, 0, 0, 0, 0⟩] (j : Int) rfl rfl (fun i _ => by have := told_le k a j i; simp; omega) (told_next k a2 j)).mono ?_
      rintro e w4 ⟨rfl, S4, hF, hW, _⟩
      have HB4 := Lib.hid (hW.below (fun n h => (HF.out.ok n h).1) HB.out sz)
      have HF4 := Lib.hid hF
      clear hF hW HF HB
      go_wp2_with fail
      go_roundw
      case rel => exact ⟨j + 1, by omega, by go_num, S4, HF4.out, HB4.out⟩
      case measure => simp [intOf]; omega
    · have d2 : decide ((j : Int) < (m : Int)) = false := by simp; omega
      obtain rfl : j = m := by omega
      obtain ⟨zs, hz⟩ : ∃ zs, (told k a j).que a = zs := ⟨_, rfl⟩
      obtain ⟨q, hq⟩ : ∃ q, zs.length = q := ⟨_, rfl⟩
      have HE : Hid (∀ (t : Nat) (h : t < zs.length), zs[t] = ev t) := fun t h => by subst hz; simp [told_que]
      have HM : Hid (q = min j k) := by show _ = _; rw [← hq, ← hz, told_que]; simp
      have HZ := Lib.hid hz
      have HQ := Lib.hid hq
      have HO := Lib.hid (told_los k a j)
      have hq2 : q ≤ 17 := by have := HM.out; omega
      have hjk : Hid (q = min j k) := HM.out
      clear hz hq d2
      by_cases hab : a = b
      · subst hab
        have d3 : ((a : Int) != (a : Int)) = false := by simp
        go_wp2_with fail
        refine (drainE (k := a) HF.out rfl a2 HZ.out HQ.out HO.out (by have := HQ.out; omega) rfl).mono ?_
        rintro e w5 ⟨A, c, rfl, hs, hF, hW⟩
        have HB5 := Lib.hid (hW.below (fun n h => (HF.out.ok n h).1) HB.out sz)
        have HS5 := Lib.hid hs
        clear hF hW hs HF HB
        go_wp2_with fail
        go_loop [19] (fun i => ∃ t : Nat, t ≤ q ∧ i = .int .i64 t ∧ True) (fun i => q - (intOf i).toNat)
        case atStart => exact ⟨0, Nat.zero_le _, rfl, trivial⟩
        case round =>
          obtain ⟨t, ht, rfl, _⟩ := hrel
          by_cases hlt : t < q
          · have d4 : decide ((t : Int) < (q : Int)) = true := by simp; omega
            have htz : t < zs.length := by have := HQ.out; omega
            obtain ⟨gb, off, rfl, _, hgb, c0, c1, c2, c3, c4, c5, c6, c7⟩ := HS5.out.ev htz
            rw [HE.out t htz] at c0 c6
            simp only [ev, ann] at c0 c6
            have d5 : ((t : Int) != (t : Int)) = false := by simp
            go_wp2_with fail
            go_round
            case rel => exact ⟨t + 1, by omega, by go_num, trivial⟩
            case measure => simp [intOf]; omega
          · obtain rfl : t = q := by omega
            have d4 : decide ((t : Int) < (t : Int)) = false := by simp
            rcases Nat.lt_trichotomy j k with hc | hc | hc
            · obtain rfl : t = j := by have := HM.out; omega
              have e1 : decide ((t : Int) < (k : Int)) = true := by simp; omega
              have e2 : decide (k < t) = false := by simp; omega
              have e3 : decide ((k : Int) < (t : Int)) = false := by simp; omega
              have e4 : ((t : Int) == (t : Int)) = true := by simp
              go_wp2_with fail
              go_ret
              exact ⟨rfl, HB5.out⟩
            · obtain rfl : t = j := by have := HM.out; omega
              subst hc
              have e2 : decide (t < t) = false := by simp
              have e3 : decide ((t : Int) < (t : Int)) = false := by simp
              have e4 : ((t : Int) == (t : Int)) = true := by simp
              go_wp2_with fail
              go_ret
              exact ⟨rfl, HB5.out⟩
            · obtain rfl : t = k := by have := HM.out; omega
              have e1 : decide ((j : Int) < (t : Int)) = false := by simp; omega
              have e2 : decide (t < j) = true := by simp; omega
              have e3 : decide ((t : Int) < (j : Int)) = true := by simp; omega
              have e4 : ((t : Int) == (t : Int)) = true := by simp
              go_wp2_with fail
              go_ret
              exact ⟨rfl, HB5.out⟩
      · have d3 : ((a : Int) != (b : Int)) = true := by simp; omega
        have hba : b ≠ a := fun e => hab e.symm
        go_wp2_with fail
        refine (drainE (k := b) HF.out rfl b2 (told_other k j hba).1 (m := 0) rfl (told_other k j hba).2 (by simp) (drained_other k j hba)).mono ?_
        rintro e w4 ⟨A0, c0, rfl, _, hF, hW⟩
        have HB4 := Lib.hid (hW.below (fun n h => (HF.out.ok n h).1) HB.out sz)
        have HF4 := Lib.hid hF
        clear hF hW HF HB sz
        have HF := HF4
        have HB := HB4
        have sz := HB4.out.size
        clear HF4 HB4
        go_wp2_with fail
        refine (drainE (k := a) HF.out rfl a2 HZ.out HQ.out HO.out (by have := HQ.out; omega) rfl).mono ?_
        rintro e w5 ⟨A, c, rfl, hs, hF, hW⟩
        have HB5 := Lib.hid (hW.below (fun n h => (HF.out.ok n h).1) HB.out sz)
        have HS5 := Lib.hid hs
        clear hF hW hs HF HB
        go_wp2_with fail
        go_loop [19] (fun i => ∃ t : Nat, t ≤ q ∧ i = .int .i64 t ∧ True) (fun i => q - (intOf i).toNat)
        case atStart => exact ⟨0, Nat.zero_le _, rfl, trivial⟩
        case round =>
          obtain ⟨t, ht, rfl, _⟩ := hrel
          by_cases hlt : t < q
          · have d4 : decide ((t : Int) < (q : Int)) = true := by simp; omega
            have htz : t < zs.length := by have := HQ.out; omega
            obtain ⟨gb, off, rfl, _, hgb, c0, c1, c2, c3, c4, c5, c6, c7⟩ := HS5.out.ev htz
            rw [HE.out t htz] at c0 c6
            simp only [ev, ann] at c0 c6
            have d5 : ((t : Int) != (t : Int)) = false := by simp
            go_wp2_with fail
            go_round
            case rel => exact ⟨t + 1, by omega, by go_num, trivial⟩
            case measure => simp [intOf]; omega
          · obtain rfl : t = q := by omega
            have d4 : decide ((t : Int) < (t : Int)) = false := by simp
            rcases Nat.lt_trichotomy j k with hc | hc | hc
            · obtain rfl : t = j := by have := HM.out; omega
              have e1 : decide ((t : Int) < (k : Int)) = true := by simp; omega
              have e2 : decide (k < t) = false := by simp; omega
              have e3 : decide ((k : Int) < (t : Int)) = false := by simp; omega
              have e4 : ((t : Int) == (t : Int)) = true := by simp
              go_wp2_with fail
              go_ret
              exact ⟨rfl, HB5.out⟩
            · obtain rfl : t = j := by have := HM.out; omega
              subst hc
              have e2 : decide (t < t) = false := by simp
              have e3 : decide ((t : Int) < (t : Int)) = false := by simp
              have e4 : ((t : Int) == (t : Int)) = true := by simp
              go_wp2_with fail
              go_ret
              exact ⟨rfl, HB5.out⟩
            · obtain rfl : t = k := by have := HM.out; omega
              have e1 : decide ((j : Int) < (t : Int)) = false := by simp; omega
              have e2 : decide (t < j) = true := by simp; omega
              have e3 : decide ((t : Int) < (j : Int)) = true := by simp; omega
              have e4 : ((t : Int) == (t : Int)) = true := by simp
              go_wp2_with fail
              go_ret
              exact ⟨rfl, HB5.out⟩
theorem walk0 (a b c d : Int) (h1 : (Lit.int .u8 a).wf = true) (h2 : (Lit.int .u8 b).wf = true) (h3 : (Lit.int .u8 c).wf = true) (h4 : (Lit.int .u8 d).wf = true) (w : World) :
    Calls Try.prog 7 #[.int .u8 a, .int .u8 b, .int .u8 c, .int .u8 d] w fun e w' => e = .returned (.bool true) ∧ Below w.heap.size w w' := by
  have q1 := bounds_u8 h1
  have q2 := bounds_u8 h2
  have q3 := bounds_u8 h3
  have q4 := bounds_u8 h4
  obtain ⟨a, rfl⟩ := Int.eq_ofNat_of_zero_le q1.1
  obtain ⟨b, rfl⟩ := Int.eq_ofNat_of_zero_le q2.1
  obtain ⟨c, rfl⟩ := Int.eq_ofNat_of_zero_le q3.1
  obtain ⟨d, rfl⟩ := Int.eq_ofNat_of_zero_le q4.1
  exact walk a b c d (by omega) (by omega) (by omega) (by omega) w

set_option maxRecDepth 100000 in
theorem lifted (os : Os) (started : os.Started) (H : Type) (enc : TypeId × Value → H) :
    ReturnsInHanded {} Try.checked os 7 .any (Rows.feedLostSpec.pre6 enc Try.prog Try.f7 Rows.feedLostRow.domain false) (Rows.feedLostSpec.post enc Try.prog Try.f7 false true false false) := by
  refine returnsInHanded_of_change (C := Try.checked) own started (by kernel_rfl) Try.func7
    (ChangeSpec.witness6 (enc := enc) (C := Try.checked) false ⟨#[], #[.int .u8 0, .int .u8 0, .int .u8 0, .int .u8 0], []⟩ 8 (by kernel_rfl) (by kernel_rfl) (by kernel_rfl) (by kernel_rfl)) ?_
  intro W base args ds gs before hval0 hW hcnd _
  have hval : ∀ (j : Nat) t v, Try.f7.params[j]? = some t → args[j]? = some v → Value.okWide Try.prog W .any base t v := hval0
  have hW' := hW
  obtain ⟨p, q, hA0, hV, rfl, hfz, hnd⟩ := hW
  have hA : DataW.TrodAll enc Try.prog W 0 (fun _ => true) true Try.f7.params.toList args.toList ds p := hA0
  rw [Try.params7] at hA hval
  obtain ⟨v0, vs0, d0, ds0, p0, q0, hargs, rfl, rfl, h0, r0⟩ := trodAll_cons hA
  obtain ⟨v1, vs1, d1, ds1, p1, q1, rfl, rfl, rfl, h1, r1⟩ := trodAll_cons r0
  obtain ⟨v2, vs2, d2, ds2, p2, q2, rfl, rfl, rfl, h2, r2⟩ := trodAll_cons r1
  obtain ⟨v3, vs3, d3, ds3, p3, q3, rfl, rfl, rfl, h3, r3⟩ := trodAll_cons r2
  obtain ⟨rfl, rfl, rfl⟩ := trodAll_nil r3
  obtain rfl : args = #[v0, v1, v2, v3] := by cases args; simp_all
  obtain ⟨a0, rfl, rfl, rfl, w0⟩ := open_int Try.underlying5 (hval 0 5 v0 rfl rfl) h0
  obtain ⟨a1, rfl, rfl, rfl, w1⟩ := open_int Try.underlying5 (hval 1 5 v1 rfl rfl) h1
  obtain ⟨a2, rfl, rfl, rfl, w2⟩ := open_int Try.underlying5 (hval 2 5 v2 rfl rfl) h2
  obtain ⟨a3, rfl, rfl, rfl, w3⟩ := open_int Try.underlying5 (hval 3 5 v3 rfl rfl) h3
  refine (walk0 a0 a1 a2 a3 w0 w1 w2 w3 W).mono fun e W' ⟨he, bel⟩ => ?_
  subst he
  exact ⟨_, rfl, Law.post_law laidOut (by kernel_rfl) (by kernel_rfl) Try.underlying4 rfl (fun ds h => by match ds, h with | [_, _, _, _], _ => rfl) hW' bel⟩

theorem proved : Rows.FeedLostSaid :=
  OpenClaim.holds_of_wide 7 Try.f7 rfl rfl rfl rfl rfl rfl rfl ⟨rfl, rfl, rfl, rfl, rfl⟩ rfl rfl rfl rfl rfl (by kernel_rfl) Try.func7 (by kernel_rfl)
    (of_decide_eq_true (by kernel_rfl)) (by unfold Func.isWrapper; rw [if_neg (by decide +kernel)]; exact ⟨rfl, rfl⟩)
    (fun os started H enc _ => lifted os started H enc)
#print axioms proved
end Go.Proofs.Ytkmodjdgcdcihaa.feedLost
