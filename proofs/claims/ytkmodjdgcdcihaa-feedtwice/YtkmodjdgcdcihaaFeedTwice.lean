/-
  Who watches a user twice is told once; who doesn't any more keeps what it was told. For every client's number, every user and every number of times, no condition.
-/
import Derived.Test.YtkmodjdgcdcihaaFeed05
namespace Go.Proofs.Ytkmodjdgcdcihaa.feedTwice
open Go.RowKit Go.ChangeShapes Go.WideShapes Go.ChangeAt
open Feed Go.Law
/-- client k alone watches u -/
def one (k : Nat) (u : ByteArray) : St := { St.zero with wat := upd St.zero.wat k [(u, 0)] }
theorem one_first (k : Nat) (u : ByteArray) : { St.zero with wat := upd St.zero.wat k (putK OmapU.lt u 0 (St.zero.wat k)) } = one k u := rfl
theorem upd_upd {α : Type} (f : Nat → α) (k : Nat) (a b : α) : upd (upd f k a) k b = upd f k b := by funext i; unfold upd; split <;> rfl
theorem one_more (k : Nat) (u : ByteArray) : { one k u with wat := upd (one k u).wat k (putK OmapU.lt u 0 ((one k u).wat k)) } = one k u := by
  have e : putK OmapU.lt u 0 ((one k u).wat k) = [(u, 0)] := by
    show putK OmapU.lt u 0 (upd St.zero.wat k [(u, 0)] k) = _
    rw [upd_same]
    simp [putK, OmapU.tri.irr u]
  rw [e]
  unfold one
  rw [upd_upd]
theorem tell_one (room : Nat) (s : St) (c : Cg) (seq : Int) : s.tell room [c] seq = s.upto room (c.ev seq) 8 := by simp only [St.tell, List.foldl_cons, List.foldl_nil]
def told (k : Nat) (u : ByteArray) : St := (one k u).tell 300 [⟨u, 0, 0, 0, 0, 0, 1⟩] 5
def gone (k : Nat) (u : ByteArray) : St := { told k u with wat := upd (told k u).wat k (outK u ((told k u).wat k)) }
def last (k : Nat) (u : ByteArray) : St := (gone k u).tell 300 [⟨u, 0, 0, 1, 0, 0, 0⟩] 6
theorem told_wat (k : Nat) (u : ByteArray) : (told k u).wat = upd St.zero.wat k [(u, 0)] := by
  rw [told, tell_one, upto_wat]
  rfl
theorem one_has (k : Nat) (u : ByteArray) : (one k u).has k u = true := by
  show (getK u (upd St.zero.wat k [(u, 0)] k)).isSome = true
  rw [upd_same]
  simp [getK]
theorem gone_wat (k : Nat) (u : ByteArray) : (gone k u).wat k = [] := by
  show upd _ k _ k = _
  rw [upd_same, told_wat, upd_same]
  simp [outK]
theorem gone_has (k : Nat) (u : ByteArray) : (gone k u).has k u = false := by unfold St.has; rw [gone_wat]; rfl
theorem told_que {k : Nat} (hk : k < 8) (u : ByteArray) : (told k u).que k = [⟨u, 0, 0, 0, 0, 0, 1, 5⟩] := by
  rw [told, tell_one, upto_que, if_pos ⟨hk, one_has k u⟩]
  rfl
theorem gone_que (k i : Nat) (u : ByteArray) : (gone k u).que i = (told k u).que i := by simp only [gone]
theorem gone_los (k i : Nat) (u : ByteArray) : (gone k u).los i = (told k u).los i := by simp only [gone]
theorem last_que {k : Nat} (hk : k < 8) (u : ByteArray) : (last k u).que k = [⟨u, 0, 0, 0, 0, 0, 1, 5⟩] := by
  rw [last, tell_one, upto_que, if_neg (fun h => by have := h.2; rw [gone_has] at this; cases this)]
  rw [gone_que]
  exact told_que hk u
theorem last_los {k : Nat} (hk : k < 8) (u : ByteArray) : (last k u).los k = false := by
  rw [last, tell_one, upto_los, if_neg (fun h => by have := h.2; rw [gone_has] at this; cases this)]
  rw [gone_los, told, tell_one, upto_los, if_pos ⟨hk, one_has k u⟩]
  rfl
theorem last_wat (k : Nat) (u : ByteArray) : (last k u).wat k = [] := by
  rw [last, tell_one, upto_wat, gone_wat]
theorem que_le (k : Nat) (u : ByteArray) (i : Nat) : ((told k u).que i).length ≤ 1 := by
  have h := tell_le 300 5 i [⟨u, 0, 0, 0, 0, 0, 1⟩] (one k u)
  have e : ((one k u).que i).length + [(⟨u, 0, 0, 0, 0, 0, 1⟩ : Cg)].length = 1 := rfl
  rw [e] at h
  unfold told
  exact h
set_option maxRecDepth 100000 in
set_option maxHeartbeats 4000000 in
theorem walk (who n : Nat) (hw : who ≤ 255) (hn : n ≤ 255) (u : ByteArray) (hu : u.size ≤ 100) (w : World) :
    Calls Try.prog 8 #[.int .u8 (who : Int), .string u, .int .u8 (n : Int)] w fun e w' => e = .returned (.bool true) ∧ Below w.heap.size w w' := by
  have d1 : decide (100 < (u.size : Int)) = false := by simp; omega
  obtain ⟨k, hk⟩ : ∃ k : Nat, who % 8 = k := ⟨_, rfl⟩
  have k1 : (who : Int) % 8 = (k : Int) := by omega
  have k2 : k < 8 := by omega
  obtain ⟨m, hm⟩ : ∃ m : Nat, n % 5 = m := ⟨_, rfl⟩
  have m1 : (n : Int) % 5 = (m : Int) := by omega
  have m2 : m < 5 := by omega
  have K1 := Lib.hid k1
  have M1 := Lib.hid m1
  clear hk hm k1 m1
  go_enter Try.func8, Try.ntmps8
  go_wp2_with fail
  refine (awake w).mono ?_
  rintro e w1 ⟨rfl, hB⟩
  have HB := Lib.hid hB
  have sb := hB.size
  clear hB
  go_wp2_with fail
  refine (new 300 w1 sb).mono ?_
  rintro e w2 ⟨rfl, hF, hb⟩
  have HF : Hid (Fed w2 w.heap.size (fun n => w1.heap.size ≤ n ∧ n < w2.heap.size) w1.heap.size 300 St.zero) := hF
  have HB2 := Lib.hid (HB.out.trans (hb.mono sb))
  clear hF hb HB
  generalize w1.heap.size = b at *
  go_wp2_with fail
  rw [K1.out]
  go_loopw [9] (fun i wr => ∃ j : Nat, j ≤ m + 1 ∧ i = .int .i64 j ∧ ∃ S, Fed wr w.heap.size S b 300 (if j = 0 then St.zero else one k u) ∧ Below w.heap.size w wr) (fun i _ => m + 1 - (intOf i).toNat)
  case atStart => exact ⟨0, Nat.zero_le _, rfl, _, HF.out, HB2.out⟩
  case round =>
    clear HF HB2
    obtain ⟨j, hj, rfl, S, hF, hB⟩ := hrel
    have HF := Lib.hid hF
    have HB := Lib.hid hB
    clear hF hB
    by_cases hlt : j ≤ m
    · have d2 : decide ((j : Int) ≤ (n : Int) % 5) = true := by have := M1.out; simp; omega
      go_wp2_with fail
      have hst : { (if j = 0 then St.zero else one k u) with wat := upd (if j = 0 then St.zero else one k u).wat k (putK OmapU.lt u 0 ((if j = 0 then St.zero else one k u).wat k)) } = one k u := by
        by_cases h0 : j = 0
        · rw [if_pos h0]; exact one_first k u
        · rw [if_neg h0]; exact one_more k u
      have hwl : ((if j = 0 then St.zero else one k u).wat k).length ≤ 999 := by
        by_cases h0 : j = 0
        · rw [if_pos h0]; simp [St.zero]
        · rw [if_neg h0]; simp [one, upd]
      refine (watchE (k := k) HF.out rfl k2 u hwl hst).mono ?_
      clear hst hwl
      rintro e w3 ⟨rfl, hF, hW⟩
      have HB3 := Lib.hid (hW.below (fun n h => (HF.out.ok n h).1) HB.out HB.out.size)
      have HF3 := Lib.hid hF
      clear hF hW HF HB
      go_wp2_with fail
      go_roundw
      case rel => exact ⟨j + 1, by omega, by go_num, S, by rw [if_neg (by omega)]; exact HF3.out, HB3.out⟩
      case measure => simp [intOf]; omega
    · have d2 : decide ((j : Int) ≤ (n : Int) % 5) = false := by have := M1.out; simp; omega
      rw [if_neg (by omega)] at HF
      have sz := HB.out.size
      go_wp2_with fail
      refine (tellLit HF.out sz [⟨u, 0, 0, 0, 0, 0, 1⟩] 5 rfl rfl (fun i _ => by simp [one, St.zero]) (s' := told k u) rfl).mono ?_
      rintro e w3 ⟨rfl, S3, hF, hW, _⟩
      have HB3 := Lib.hid (hW.below (fun n h => (HF.out.ok n h).1) HB.out sz)
      have HF3 := Lib.hid hF
      have sz3 := HB3.out.size
      clear hF hW HF HB
      go_wp2_with fail
      refine (countE (k := k) HF3.out rfl k2 (n := 1) (by rw [told_wat, upd_same]; rfl)).mono ?_
      rintro e w4 ⟨rfl, hb⟩
      have HB4 := Lib.hid (HB3.out.trans (hb.mono sz3))
      have HF4 := Lib.hid (HF3.out.below hb)
      have sz4 := HB4.out.size
      clear hb HB3 HF3
      go_wp2_with fail
      refine (unwatchE (k := k) HF4.out rfl k2 u (by rw [told_wat, upd_same]; simp) (s' := gone k u) rfl).mono ?_
      rintro e w5 ⟨rfl, hF, hW⟩
      have HB5 := Lib.hid (hW.below (fun n h => (HF4.out.ok n h).1) HB4.out sz4)
      have HF5 := Lib.hid hF
      have sz5 := HB5.out.size
      clear hF hW HB4 HF4
      go_wp2_with fail
      refine (tellLit HF5.out sz5 [⟨u, 0, 0, 1, 0, 0, 0⟩] 6 rfl rfl (fun i _ => by rw [gone_que]; have := que_le k u i; simp; omega) (s' := last k u) rfl).mono ?_
      rintro e w6 ⟨rfl, S6, hF, hW, _⟩
      have HB6 := Lib.hid (hW.below (fun n h => (HF5.out.ok n h).1) HB5.out sz5)
      have HF6 := Lib.hid hF
      have sz6 := HB6.out.size
      clear hF hW HB5 HF5
      go_wp2_with fail
      refine (drainE (k := k) HF6.out rfl k2 (last_que k2 u) (m := 1) rfl (last_los k2 u) (by simp) rfl).mono ?_
      rintro e w7 ⟨A, c, rfl, hs, hF, hW⟩
      have HB7 := Lib.hid (hW.below (fun n h => (HF6.out.ok n h).1) HB6.out sz6)
      have HF7 := Lib.hid hF
      have sz7 := HB7.out.size
      have HS7 := Lib.hid hs
      clear hF hW HB6 HF6 hs
      go_wp2_with fail
      refine (countE (k := k) HF7.out rfl k2 (n := 0) (by rw [show St.wat { last k u with que := _, los := _ } k = [] from last_wat k u]; rfl)).mono ?_
      rintro e w8 ⟨rfl, hb⟩
      have HB8 := Lib.hid (HB7.out.trans (hb.mono sz7))
      have HF8 := Lib.hid (HF7.out.below hb)
      have HS8 := Lib.hid (HS7.out.below hb)
      have sz8 := HB8.out.size
      have hb8 := hb.size
      clear hb HB7 HF7 HS7
      go_wp2_with fail
      refine (watchingE (k := k) HF8.out rfl k2 u (r := false) (by unfold St.has; rw [show St.wat { last k u with que := _, los := _ } k = [] from last_wat k u]; rfl)).mono ?_
      rintro e w9 ⟨rfl, hb⟩
      have HB9 := Lib.hid (HB8.out.trans (hb.mono sz8))
      obtain ⟨gb, off, rfl, _, hgb, c0, c1, c2, c3, c4, c5, c6, c7⟩ := (HS8.out.below (hb.mono (by omega))).ev (i := 0) (by simp)
      have hb9 := hb.size
      simp at c0 c1 c2 c3 c4 c5 c6 c7
      clear hb HB8 HF8 HS8
      go_wp2_with fail
      go_ret
      exact ⟨rfl, HB9.out⟩
set_option maxHeartbeats 1000000 in
theorem walkLong (who n : Int) (u : ByteArray) (hu : 100 < u.size) (w : World) :
    Calls Try.prog 8 #[.int .u8 who, .string u, .int .u8 n] w fun e w' => e = .returned (.bool true) ∧ Below w.heap.size w w' := by
  have d1 : decide (100 < (u.size : Int)) = true := by simp; omega
  go_enter Try.func8, Try.ntmps8
  go_wp2_with fail
  refine (awake w).mono ?_
  rintro e w1 ⟨rfl, hB⟩
  have HB := Lib.hid hB
  clear hB
  go_wp2_with fail
  refine (awake w1).mono ?_
  rintro e w2 ⟨rfl, hB⟩
  have HB2 := Lib.hid (HB.out.trans (hB.mono HB.out.size))
  clear hB HB
  go_wp2_with fail
  go_ret
  exact ⟨rfl, HB2.out⟩
theorem walk0 (who n : Int) (hw : (Lit.int .u8 who).wf = true) (hn : (Lit.int .u8 n).wf = true) (u : ByteArray) (w : World) :
    Calls Try.prog 8 #[.int .u8 who, .string u, .int .u8 n] w fun e w' => e = .returned (.bool true) ∧ Below w.heap.size w w' := by
  have h1 := bounds_u8 hw
  have h2 := bounds_u8 hn
  obtain ⟨a, rfl⟩ := Int.eq_ofNat_of_zero_le h1.1
  obtain ⟨b, rfl⟩ := Int.eq_ofNat_of_zero_le h2.1
  by_cases h : u.size ≤ 100
  · exact walk a b (by omega) (by omega) u h w
  · exact walkLong _ _ u (by omega) w

set_option maxRecDepth 100000 in
theorem lifted (os : Os) (started : os.Started) (H : Type) (enc : TypeId × Value → H) :
    ReturnsInHanded {} Try.checked os 8 .any (Rows.feedTwiceSpec.pre6 enc Try.prog Try.f8 Rows.feedTwiceRow.domain false) (Rows.feedTwiceSpec.post enc Try.prog Try.f8 false true false false) := by
  refine returnsInHanded_of_change (C := Try.checked) own started (by kernel_rfl) Try.func8
    (ChangeSpec.witness6 (enc := enc) (C := Try.checked) false ⟨#[], #[.int .u8 0, .string ⟨#[]⟩, .int .u8 0], []⟩ 8 (by kernel_rfl) (by kernel_rfl) (by kernel_rfl) (by kernel_rfl)) ?_
  intro W base args ds gs before hval0 hW hcnd _
  have hval : ∀ (j : Nat) t v, Try.f8.params[j]? = some t → args[j]? = some v → Value.okWide Try.prog W .any base t v := hval0
  have hW' := hW
  obtain ⟨p, q, hA0, hV, rfl, hfz, hnd⟩ := hW
  have hA : DataW.TrodAll enc Try.prog W 0 (fun _ => true) true Try.f8.params.toList args.toList ds p := hA0
  rw [Try.params8] at hA hval
  obtain ⟨v0, vs0, d0, ds0, p0, q0, hargs, rfl, rfl, h0, r0⟩ := trodAll_cons hA
  obtain ⟨v1, vs1, d1, ds1, p1, q1, rfl, rfl, rfl, h1, r1⟩ := trodAll_cons r0
  obtain ⟨v2, vs2, d2, ds2, p2, q2, rfl, rfl, rfl, h2, r2⟩ := trodAll_cons r1
  obtain ⟨rfl, rfl, rfl⟩ := trodAll_nil r2
  obtain rfl : args = #[v0, v1, v2] := by cases args; simp_all
  obtain ⟨a0, rfl, rfl, rfl, w0⟩ := open_int Try.underlying5 (hval 0 5 v0 rfl rfl) h0
  obtain ⟨a1, rfl, rfl, rfl, w1⟩ := Go.ChangeMaps.open_string Try.underlying9 (hval 1 9 v1 rfl rfl) h1
  obtain ⟨a2, rfl, rfl, rfl, w2⟩ := open_int Try.underlying5 (hval 2 5 v2 rfl rfl) h2
  refine (walk0 a0 a2 w0 w2 a1 W).mono fun e W' ⟨he, bel⟩ => ?_
  subst he
  exact ⟨_, rfl, Law.post_law laidOut (by kernel_rfl) (by kernel_rfl) Try.underlying4 rfl (fun ds h => by match ds, h with | [_, _, _], _ => rfl) hW' bel⟩

theorem proved : Rows.FeedTwiceSaid :=
  OpenClaim.holds_of_wide 8 Try.f8 rfl rfl rfl rfl rfl rfl rfl ⟨rfl, rfl, rfl, rfl, rfl⟩ rfl rfl rfl rfl rfl (by kernel_rfl) Try.func8 (by kernel_rfl)
    (of_decide_eq_true (by kernel_rfl)) (by unfold Func.isWrapper; rw [if_neg (by decide +kernel)]; exact ⟨rfl, rfl⟩)
    (fun os started H enc _ => lifted os started H enc)
#print axioms proved
end Go.Proofs.Ytkmodjdgcdcihaa.feedTwice
