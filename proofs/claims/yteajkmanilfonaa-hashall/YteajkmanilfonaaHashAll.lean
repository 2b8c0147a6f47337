/-
  HashAll: whatever the users and the number, the statement's function returns true, and the arguments read as before. No condition.
-/
import Derived.Test.YteajkmanilfonaaHash03
import Derived.Deep.QuietTactic
import Derived.BigQuiet
namespace Go.Proofs.Yteajkmanilfonaa.hashAll
open Go.ChangeShapes Go.WideShapes Go.ChangeAt Go.RowKit
open Door

/-- is one of the users in the stripe z? -/
def inZ (us : List ByteArray) (n z : Int) : Bool := us.any fun u => ((Hash.stripe u.data.toList n : Nat) : Int) == z
/-- is the stripe z told? -/
def told (zs : List Int) (z : Int) : Bool := zs.any fun x => z == x
theorem inZ_next (us : List ByteArray) (n z : Int) (k : Nat) (h : k < us.length) : inZ (us.take (k + 1)) n z = (inZ (us.take k) n z || ((Hash.stripe us[k].data.toList n : Nat) : Int) == z) := by
  rw [List.take_succ_eq_append_getElem h]; simp only [inZ, List.any_append, List.any_cons, List.any_nil, Bool.or_false]
theorem told_next (zs : List Int) (z : Int) (k : Nat) (h : k < zs.length) : told (zs.take (k + 1)) z = (told (zs.take k) z || z == zs[k]) := by
  rw [List.take_succ_eq_append_getElem h]; simp only [told, List.any_append, List.any_cons, List.any_nil, Bool.or_false]
theorem mem_stripes {us : List ByteArray} {n z : Int} (h : z ∈ Hash.stripes us n) : inZ us n z = true := by
  simp only [Hash.upTo, List.mem_map, List.mem_filter] at h
  obtain ⟨i, ⟨_, hm⟩, rfl⟩ := h
  simp only [Hash.met, List.any_eq_true] at hm
  obtain ⟨u, hu, he⟩ := hm
  simp only [inZ, List.any_eq_true]
  refine ⟨u, hu, ?_⟩
  simp at he
  simp [he]
theorem told_stripe {us : List ByteArray} {n : Int} (h1 : 1 ≤ n) (h8 : n ≤ 8) {u : ByteArray} (hu : u ∈ us) : told (Hash.stripes us n) ((Hash.stripe u.data.toList n : Nat) : Int) = true := by
  simp only [told, List.any_eq_true]
  have := Hash.stripe_lt u.data.toList h1
  refine ⟨((Hash.stripe u.data.toList n : Nat) : Int), ?_, by simp⟩
  simp only [Hash.upTo, List.mem_map, List.mem_filter, List.mem_range]
  exact ⟨_, ⟨by omega, by simp only [Hash.met, List.any_eq_true]; exact ⟨u, hu, by simp⟩⟩, rfl⟩
theorem none_iff {us : List ByteArray} {n : Int} (h1 : 1 ≤ n) (h8 : n ≤ 8) : (((Hash.stripes us n).length : Int) == 0) = ((us.length : Int) == 0) := by
  rw [Bool.eq_iff_iff]
  simp only [beq_iff_eq]
  constructor
  · intro h
    rcases us with _ | ⟨u, us⟩
    · rfl
    · have := told_stripe h1 h8 (us := u :: us) (u := u) (by simp)
      have e : Hash.stripes (u :: us) n = [] := List.eq_nil_of_length_eq_zero (by omega)
      rw [e] at this
      simp [told] at this
  · intro h
    have e : us = [] := List.eq_nil_of_length_eq_zero (by omega)
    subst e
    have : Hash.stripes [] n = [] := by simp [Hash.upTo, Hash.met]
    rw [this]
    rfl

set_option maxRecDepth 100000 in
set_option maxHeartbeats 3200000 in
theorem walk (us : List ByteArray) (A : Option Addr) (c : Nat) (n : Nat) (hn : n ≤ 255) (w : World) (hs : Law.Seq w 0 w.heap.size A (us.map .string)) (hl : us.length ≤ maxLen) (hz : ∀ u ∈ us, u.size ≤ maxLen) :
    Calls Try.prog 8 #[.slice A us.length c, .int .u8 (n : Int)] w fun e w' => e = .returned (.bool true) ∧ Below w.heap.size w w' := by
  have HZ := Lib.hid hz
  have HS := Lib.hid hs
  have HL := Lib.hid hl
  unfold maxLen at hl
  clear hz hs
  cases hb : Hash.longB us
  · have HB := Lib.hid hb
    have hsh := (Hash.short hb).1
    clear hb
    go_enter Try.func8, Try.ntmps8
    go_wp2_with fail
    refine (Hash.awake _).mono ?_
    rintro e w' ⟨rfl, rfl⟩
    go_wp2_with fail
    refine (Hash.long us A c _ HS.out HL.out HZ.out).mono ?_
    rintro e w' ⟨rfl, rfl⟩
    rw [HB.out]
    go_wp2_with fail
    have k1 : (1 : Int) ≤ 1 + (n : Int) % 8 := by omega
    have k8 : 1 + (n : Int) % 8 ≤ 8 := by omega
    generalize 1 + (n : Int) % 8 = m at *
    refine (Hash.hstripes us A c m (by omega) _ HS.out HL.out HZ.out).mono ?_
    rintro e w1 ⟨A1, c1, rfl, h1, b1⟩
    have H1 := Lib.hid h1
    have B1 := Lib.hid b1
    have H0 := Lib.hid ((HS.out.below b1).more b1.size)
    clear h1 b1
    have hq : (Hash.stripes us m).length ≤ 8 := Hash.upTo_len us m 8
    have F1 := Lib.hid (fun z => mem_stripes (us := us) (n := m) (z := z))
    have F2 := Lib.hid (fun u => told_stripe (us := us) k1 k8 (u := u))
    have F3 := Lib.hid (none_iff (us := us) k1 k8)
    generalize Hash.stripes us m = zs at *
    go_wp2_with fail
    go_loopw [7] (fun i wr => ∃ k : Nat, k ≤ zs.length ∧ i = .int .i64 k ∧ Law.Drawn w1 wr) (fun i _ => zs.length - (intOf i).toNat)
    case atStart => exact ⟨0, Nat.zero_le _, rfl, Law.Drawn.refl _⟩
    case round =>
      obtain ⟨k, hk, rfl, hD⟩ := hrel
      have HD := Lib.hid hD
      clear hD
      by_cases hlt : k < zs.length
      · obtain ⟨g1, o1, rfl, _, l1, q1⟩ := (HD.out.seq H1.out).int hlt
        have hmem := Lib.hid (F1.out zs[k] (List.getElem_mem hlt))
        generalize zs[k] = z at *
        have hd : decide (k < zs.length) = true := by simp; omega
        go_wp2_with fail
        go_loopw [8, 9] (fun m' i wq => ∃ j : Nat, j ≤ us.length ∧ i = .int .i64 j ∧ m' = .bool (inZ (us.take j) m z) ∧ Law.Drawn w1 wq) (fun _ i _ => us.length - (intOf i).toNat)
        case atStart => exact ⟨0, Nat.zero_le _, rfl, rfl, HD.out⟩
        case round =>
          obtain ⟨j, hj, rfl, rfl, hE⟩ := hrel
          have HE := Lib.hid hE
          clear hE
          by_cases hjl : j < us.length
          · have hmn := Lib.hid (inZ_next us m z j hjl)
            obtain ⟨b, off, rfl, _, hb, hc⟩ := (HE.out.seq H0.out).str hjl
            have hu := HZ.out _ (List.getElem_mem hjl)
            have q2 := ((HE.out.cell _).trans (HD.out.cell _).symm).trans q1
            generalize us[j] = u at *
            cases hm : inZ (us.take j) m z
            · rw [hm] at hmn
              clear hm
              go_wp2_with fail
              go_quiet ((go_at_call 12; exact Law.quiet (Hash.hstripe _ _ _ hu (by omega))))
              go_wp2_with fail
              go_roundw
              case rel => exact ⟨j + 1, by omega, by go_num, by rw [hmn.out]; rfl, HE.out.drewN _⟩
              case measure => simp [intOf]; omega
            · rw [hm] at hmn
              clear hm
              go_wp2_with fail
              go_quiet (fail)
              go_wp2_with fail
              go_roundw
              case rel => exact ⟨j + 1, by omega, by go_num, by rw [hmn.out]; rfl, HE.out.drewN _⟩
              case measure => simp [intOf]; omega
          · rw [List.take_of_length_le (by omega), hmem.out]
            go_wp2_with fail
            go_roundw
            case rel => exact ⟨k + 1, by omega, by go_num, HE.out⟩
            case measure => simp [intOf]; omega
      · go_wp2_with fail
        go_loopw [10] (fun i wq => ∃ j : Nat, j ≤ us.length ∧ i = .int .i64 j ∧ Law.Drawn w1 wq) (fun i _ => us.length - (intOf i).toNat)
        case atStart => exact ⟨0, Nat.zero_le _, rfl, HD.out⟩
        case round =>
          obtain ⟨j, hj, rfl, hE⟩ := hrel
          have HE := Lib.hid hE
          clear hE
          by_cases hjl : j < us.length
          · obtain ⟨b, off, rfl, _, hb, hc⟩ := (HE.out.seq H0.out).str hjl
            have hu := HZ.out _ (List.getElem_mem hjl)
            have hto := Lib.hid (F2.out us[j] (List.getElem_mem hjl))
            generalize us[j] = u at *
            have hd : decide (j < us.length) = true := by simp; omega
            go_wp2_with fail
            go_loopw [11, 12] (fun m' i wx => ∃ x : Nat, x ≤ zs.length ∧ i = .int .i64 x ∧ m' = .bool (told (zs.take x) ((Hash.stripe u.data.toList m : Nat) : Int)) ∧ Law.Drawn w1 wx) (fun _ i _ => zs.length - (intOf i).toNat)
            case atStart => exact ⟨0, Nat.zero_le _, rfl, rfl, HE.out⟩
            case round =>
              obtain ⟨x, hx, rfl, rfl, hG⟩ := hrel
              have HG := Lib.hid hG
              clear hG
              by_cases hxl : x < zs.length
              · have hmn := Lib.hid (told_next zs ((Hash.stripe u.data.toList m : Nat) : Int) x hxl)
                obtain ⟨g1, o1, rfl, _, l1, q1⟩ := (HG.out.seq H1.out).int hxl
                have q2 := ((HG.out.cell _).trans (HE.out.cell _).symm).trans hc
                generalize zs[x] = z at *
                cases hm : told (zs.take x) ((Hash.stripe u.data.toList m : Nat) : Int)
                · rw [hm] at hmn
                  clear hm
                  go_wp2_with fail
                  go_quiet ((go_at_call 12; exact Law.quiet (Hash.hstripe _ _ _ hu (by omega))))
                  go_wp2_with fail
                  go_roundw
                  case rel => exact ⟨x + 1, by omega, by go_num, by rw [hmn.out]; rfl, HG.out.drewN _⟩
                  case measure => simp [intOf]; omega
                · rw [hm] at hmn
                  clear hm
                  go_wp2_with fail
                  go_quiet (fail)
                  go_wp2_with fail
                  go_roundw
                  case rel => exact ⟨x + 1, by omega, by go_num, by rw [hmn.out]; rfl, HG.out.drewN _⟩
                  case measure => simp [intOf]; omega
              · rw [List.take_of_length_le (by omega), hto.out]
                go_wp2_with fail
                go_roundw
                case rel => exact ⟨j + 1, by omega, by go_num, HG.out⟩
                case measure => simp [intOf]; omega
          · have e3 := Lib.hid F3.out
            go_wp2_with fail
            go_ret
            refine ⟨Hash.ret_bool (by rw [e3.out]; simp), HE.out.below B1.out⟩
  · have HB := Lib.hid hb
    clear hb
    go_enter Try.func8, Try.ntmps8
    go_wp2_with fail
    refine (Hash.awake _).mono ?_
    rintro e w' ⟨rfl, rfl⟩
    go_wp2_with fail
    refine (Hash.long us A c _ HS.out HL.out HZ.out).mono ?_
    rintro e w' ⟨rfl, rfl⟩
    rw [HB.out]
    go_wp2_with fail
    refine (Hash.awake _).mono ?_
    rintro e w' ⟨rfl, rfl⟩
    go_wp2_with fail
    go_ret
    exact ⟨rfl, Below.refl _ _⟩

theorem walk0 (us : List ByteArray) (A : Option Addr) (c : Nat) (n : Int) (hn : (Lit.int .u8 n).wf = true) (w : World) (hs : Law.Seq w 0 w.heap.size A (us.map .string)) (hl : us.length ≤ maxLen) (hz : ∀ u ∈ us, u.size ≤ maxLen) :
    Calls Try.prog 8 #[.slice A us.length c, .int .u8 n] w fun e w' => e = .returned (.bool true) ∧ Below w.heap.size w w' := by
  have := bounds_u8 hn
  obtain ⟨k, rfl⟩ := Int.eq_ofNat_of_zero_le this.1
  exact walk us A c k (by omega) w hs hl hz

set_option maxRecDepth 100000 in
theorem lifted (os : Os) (started : os.Started) (H : Type) (enc : TypeId × Value → H) :
    ReturnsInHanded {} Try.checked os 8 .any (Rows.hashAllSpec.pre6 enc Try.prog Try.f8 Rows.hashAllRow.domain false) (Rows.hashAllSpec.post enc Try.prog Try.f8 false true false false) := by
  refine returnsInHanded_of_change (C := Try.checked) own started (by kernel_rfl) Try.func8
    (ChangeSpec.witness6 (enc := enc) (C := Try.checked) false ⟨#[], #[.slice none 0 0, .int .u8 0], []⟩ 8 (by kernel_rfl) (by kernel_rfl) (by kernel_rfl) (by kernel_rfl)) ?_
  intro W base args ds gs before hval0 hW hcnd _
  have hval : ∀ (j : Nat) t v, Try.f8.params[j]? = some t → args[j]? = some v → Value.okWide Try.prog W .any base t v := hval0
  have hW' := hW
  obtain ⟨p, q, hA0, hV, rfl, hfz, hnd⟩ := hW
  have hA : DataW.TrodAll enc Try.prog W 0 (fun _ => true) true Try.f8.params.toList args.toList ds p := hA0
  rw [Try.params8] at hA hval
  obtain ⟨v0, vs0, d0, ds0, p0, q0, hargs, rfl, rfl, h0, r0⟩ := trodAll_cons hA
  obtain ⟨v1, vs1, d1, ds1, p1, q1, rfl, rfl, rfl, h1, r1⟩ := trodAll_cons r0
  obtain ⟨rfl, rfl, rfl⟩ := trodAll_nil r1
  obtain rfl : args = #[v0, v1] := by cases args; simp_all
  obtain ⟨A, c, us, rfl, hs, hl, hc, hz⟩ := Law.open_texts Try.underlying28 Try.underlying9 (by kernel_rfl) (hval 0 28 v0 rfl rfl) h0
  obtain ⟨a1, rfl, rfl, rfl, w1⟩ := open_int Try.underlying5 (hval 1 5 v1 rfl rfl) h1
  refine (walk0 us A c a1 w1 W hs hl hz).mono fun e W' ⟨he, bel⟩ => ?_
  subst he
  exact ⟨_, rfl, Law.post_law laidOut (by kernel_rfl) (by kernel_rfl) Try.underlying4 rfl (fun ds h => by match ds, h with | [_, _], _ => rfl) hW' bel⟩

theorem proved : Rows.HashAllSaid :=
  OpenClaim.holds_of_wide 8 Try.f8 rfl rfl rfl rfl rfl rfl rfl ⟨rfl, rfl, rfl, rfl, rfl⟩ rfl rfl rfl rfl rfl (by kernel_rfl) Try.func8 (by kernel_rfl)
    (of_decide_eq_true (by kernel_rfl)) (by unfold Func.isWrapper; rw [if_neg (by decide +kernel)]; exact ⟨rfl, rfl⟩)
    (fun os started H enc _ => lifted os started H enc)
#print axioms proved
end Go.Proofs.Yteajkmanilfonaa.hashAll
