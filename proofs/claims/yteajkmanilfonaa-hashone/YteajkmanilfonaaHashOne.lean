/-
  HashOne: whatever the users, the number and the two texts, the statement's function returns true, and the arguments read as before. No condition.
-/
import Derived.Test.YteajkmanilfonaaHash03
import Derived.Deep.QuietTactic
import Derived.BigQuiet
import Derived.Deep.RegionLaw
import Derived.Deep.DeepCutAuto
namespace Go.Proofs.Yteajkmanilfonaa.hashOne
open Go.ChangeShapes Go.WideShapes Go.ChangeAt Go.RowKit
open Door

/-- each user twice, the last one first -/
def dup (us : List ByteArray) : List ByteArray := (us.flatMap fun u => [u, u]).reverse
theorem dup_snoc (us : List ByteArray) (u : ByteArray) : dup (us ++ [u]) = [u, u] ++ dup us := by simp [dup]
theorem dup_len (us : List ByteArray) : (dup us).length = 2 * us.length := by
  induction us with
  | nil => rfl
  | cons u us ih => simp [dup] at ih ⊢; omega
theorem met_dup (us : List ByteArray) (n : Int) (i : Nat) : Hash.met (dup us) n i = Hash.met us n i := by
  rw [Bool.eq_iff_iff]
  simp [Hash.met, dup]
theorem stripes_dup (us : List ByteArray) (n : Int) : Hash.stripes (dup us) n = Hash.stripes us n := by
  simp only [Hash.upTo, show Hash.met (dup us) n = Hash.met us n from funext (met_dup us n)]
theorem mem_dup {us : List ByteArray} {u : ByteArray} (h : u ∈ dup us) : u ∈ us := by
  simp [dup] at h
  exact h
theorem stripes_one (u : ByteArray) {n : Int} (h1 : 1 ≤ n) (h8 : n ≤ 8) : Hash.stripes [u] n = [((Hash.stripe u.data.toList n : Nat) : Int)] := by
  have h := Hash.stripe_lt u.data.toList h1
  have e : Hash.met [u] n = fun i => Hash.stripe u.data.toList n == i := by funext i; simp [Hash.met]
  simp only [Hash.upTo, e]
  generalize Hash.stripe u.data.toList n = k at h
  match k, (show k < 8 by omega) with
  | 0, _ | 1, _ | 2, _ | 3, _ | 4, _ | 5, _ | 6, _ | 7, _ => rfl
/-- each one is greater than the one ahead of it -/
def Rises (zs : List Int) : Prop := ∀ i (h : i + 1 < zs.length), zs[i] < zs[i + 1]
theorem rising (us : List ByteArray) (n : Int) {i : Nat} (h : i + 1 < (Hash.stripes us n).length) : (Hash.stripes us n)[i] < (Hash.stripes us n)[i + 1] := by
  have p : (Hash.stripes us n).Pairwise (· < ·) := by
    simp only [Hash.upTo, List.pairwise_map]
    refine List.Pairwise.imp ?_ (List.Pairwise.filter _ List.pairwise_lt_range)
    intro a b hab
    exact Int.ofNat_lt.2 hab
  exact List.pairwise_iff_getElem.1 p i (i + 1) _ _ (by omega)
theorem elemStr : ∃ i, Law.Elem Try.prog 28 9 i (.string ⟨#[]⟩) 1 16 := Law.Elem.of Try.underlying28 (by kernel_rfl) rfl (by decide)

/-- what a round of the first loop leaves of 'turned' -/
def Turn (w : World) (us : List ByteArray) (v : Value) (wr : World) : Prop :=
  wr.ownsRow w.heap.size 9 1 v (dup us).length ((dup us).map .string) ∧ Below w.heap.size w wr

theorem Turn.below {w wr w' : World} {us : List ByteArray} {v : Value} (h : Turn w us v wr) (hb : Below wr.heap.size wr w') : Turn w us v w' := ⟨Law.own_below h.1 hb, h.2.trans (hb.mono h.2.size)⟩
theorem Turn.drewN {w wr : World} {us : List ByteArray} {v : Value} (h : Turn w us v wr) (k : Nat) : Turn w us v (wr.drewN k) := ⟨h.1, Law.below_drewN h.2 k⟩
theorem turn_next {w wx w' : World} {us : List ByteArray} {u : ByteArray} {v' : Value} {row : Option Nat} (hB : Below w.heap.size w wx) (hown : w'.ownsRow w.heap.size 9 1 v' (2 + (dup us).length) ([.string u, .string u] ++ (dup us).map .string)) (hg : wx.grownBy w' row) (hr : ∀ k, row = some k → w.heap.size ≤ k) : Turn w (us ++ [u]) v' w' := by
  refine ⟨?_, hB.grown hg hB.size hr⟩
  rw [dup_snoc]
  rw [show ([u, u] ++ dup us).length = 2 + (dup us).length from by simp; omega]
  simpa using hown

set_option maxRecDepth 100000 in
set_option maxHeartbeats 3200000 in
theorem walk (us : List ByteArray) (A : Option Addr) (c : Nat) (n : Nat) (s t : ByteArray) (hn : n ≤ 255) (w : World) (hs : Law.Seq w 0 w.heap.size A (us.map .string)) (hl : us.length ≤ maxLen) (hlc : us.length ≤ c) (hz : ∀ u ∈ us, u.size ≤ maxLen)
    (hla : Hash.longB us = false) (hls : s.size ≤ 400) (hlt : t.size ≤ 400) :
    Calls Try.prog 5 #[.slice A us.length c, .int .u8 (n : Int), .string s, .string t] w fun e w' => e = .returned (.bool true) ∧ Below w.heap.size w w' := by
  have HZ := Lib.hid hz
  have HS := Lib.hid hs
  have HL := Lib.hid hl
  have HB := Lib.hid hla
  have s1 := (Hash.short hla).1
  obtain ⟨i0, hE⟩ := elemStr
  have HE := Lib.hid hE
  have d1 : decide (400 < (s.size : Int)) = false := by simp; omega
  have d2 : decide (400 < (t.size : Int)) = false := by simp; omega
  clear hz hs hl hla hE
  go_enter Try.func5, Try.ntmps5
  go_wp2_with fail
  refine (Hash.awake _).mono ?_
  rintro e w' ⟨rfl, rfl⟩
  go_wp2_with fail
  refine (Hash.long us A c _ HS.out HL.out HZ.out).mono ?_
  rintro e w' ⟨rfl, rfl⟩
  rw [HB.out]
  have k1 : (1 : Int) ≤ 1 + (n : Int) % 8 := by omega
  have k8 : 1 + (n : Int) % 8 ≤ 8 := by omega
  have HM : Hid (∃ m : Int, m = 1 + (n : Int) % 8) := ⟨_, rfl⟩
  obtain ⟨m, hm⟩ := HM.out
  rw [← hm] at k1 k8
  clear HM
  have hm' := Lib.hid hm
  clear hm
  go_wp2_with fail
  rw [← hm'.out]
  clear hm'
  go_loopw [10, 11] (fun v i wr => ∃ k : Nat, k ≤ us.length ∧ i = .int .i64 k ∧ Turn w (us.take k) v wr) (fun _ i _ => us.length - (intOf i).toNat)
  case atStart => exact ⟨0, Nat.zero_le _, rfl, World.ownsRow_nil _ _ _ _, Below.refl _ _⟩
  case round =>
    obtain ⟨k, hk, rfl, hT⟩ := hrel
    have HT := Lib.hid hT
    clear hT
    by_cases hlt : k < us.length
    · have ht := Lib.hid (List.take_succ_eq_append_getElem hlt)
      have hu := Lib.hid (HZ.out _ (List.getElem_mem hlt))
      have hdl : (dup (us.take k)).length ≤ 800 := by rw [dup_len, List.length_take]; omega
      obtain ⟨b, off, e, _, hb, hc⟩ := HS.out.str hlt
      have hc' := (HT.out.2.cell (p := ⟨b, off + k, none⟩) hb).trans hc
      subst e
      clear hc
      generalize us[k] = u at *
      have hsz := HT.out.2.size
      have hbl : b < wr.heap.size := by omega
      obtain ⟨A', c', e, _⟩ := Law.own_shape HT.out.1
      subst e
      have OW := Lib.hid (World.ownsRow_lit (base := w.heap.size) (e := 9) (size := 1) wr #[.string u, .string u] 2 hsz (by decide) rfl)
      have SW := Lib.hid ((Law.Seq.own HT.out.1).alloc (Nat.le_refl _) (.cells #[.string u, .string u] 9))
      go_upto_region 8 with (fail)
      go_cut [10] (fun v wx => Turn w (us.take k ++ [u]) v wx)
      case first =>
        go_region_law (refine Law.step_append_seq _ w.heap.size 28 rfl (.tmp 53) (.tmp 54) rfl HE.out (.slice (some ⟨wr.heap.size, 0, none⟩) 2 2) 2 [.string u, .string u] (by simp [Act.eval]) (by exact OW.out) w.heap.size wr.heap.size A' (dup (us.take k)).length c' ((dup (us.take k)).map .string) (by simp [Act.eval]) (by simp) (by exact SW.out) (Law.str_one _) (by unfold maxLen; omega) (by omega) (by show w.heap.size ≤ (wr.alloc _).heap.size; simp; omega) ?_; intro v' w' own' grow'; have O' := Lib.hid own'; have G' := Lib.hid grow'; clear own' grow')
        all_goals
          go_wp2_with fail
          go_meet
          exact turn_next ((HT.out.2.alloc hsz _).drew) O'.out G'.out (fun g hg => by have : wr.heap.size = g := Option.some.inj hg; omega)
      case rest =>
        have HC := Lib.hid hcut
        clear hcut OW SW
        have hc2 := (HC.out.2.cell (p := ⟨b, off + k, none⟩) hb).trans ((HT.out.2.cell (p := ⟨b, off + k, none⟩) hb).symm.trans hc')
        have hsz2 := HC.out.2.size
        clear hc' HT
        have hck : ¬ c = k := by omega
        have SU : Hid (Law.Seq wc 0 wc.heap.size (some ⟨b, off + k, none⟩) ([u].map .string)) := fun _ => ⟨b, off + k, rfl, Nat.zero_le _, by omega, fun i x hx => by
          match i, hx with
          | 0, hx => simp at hx; subst hx; exact hc2⟩
        go_wp2_with fail
        refine (Hash.hstripes [u] _ _ m (by omega) wc SU.out (by simp [maxLen]) (by intro y hy; simp at hy; subst hy; exact hu.out)).mono ?_
        rintro e w1 ⟨A1, c1, rfl, h1, b1⟩
        have C1 := Lib.hid (HC.out.below b1)
        have hc3 := (b1.cell (p := ⟨b, off + k, none⟩) (by show b < _; omega)).trans hc2
        have es := stripes_one u k1 k8
        generalize Hash.stripes [u] m = z1 at *
        subst es
        obtain ⟨g1, o1, rfl, _, l1, q1⟩ := h1.int (i := 0) (by simp)
        simp only [Nat.add_zero, List.getElem_cons_zero] at q1
        have hb2 : b < w1.heap.size := by have := b1.size; omega
        clear h1 b1 HC SU hc2
        have hlt' := Hash.stripe_lt u.data.toList k1
        have hu' := hu.out
        have t1 : decide (((Hash.stripe u.data.toList m : Nat) : Int) < 0) = false := by simp
        have t2 : decide (m ≤ ((Hash.stripe u.data.toList m : Nat) : Int)) = false := by simp; omega
        go_wp2_with fail
        go_quiet ((go_at_call 12; exact Law.quiet (Hash.hstripe _ _ _ hu' (by omega))))
        go_wp2_with fail
        go_roundw
        case rel => exact ⟨k + 1, by omega, by go_num, by rw [ht.out]; exact C1.out.drewN _⟩
        case measure => simp [intOf]; omega
    · have hT := HT.out
      rw [List.take_of_length_le (by omega)] at hT
      have HT' := Lib.hid hT
      obtain ⟨A', c', e, _⟩ := Law.own_shape hT.1
      subst e
      clear HT hT
      have hsz := HT'.out.2.size
      go_wp2_with fail
      refine (Hash.hstripes us A c m (by omega) wr ((HS.out.below HT'.out.2).more hsz) HL.out HZ.out).mono ?_
      rintro e w1 ⟨A1, c1, rfl, h1, b1⟩
      have C1 := Lib.hid (HT'.out.below b1)
      have H1 := Lib.hid h1
      clear h1 b1 HT'
      go_wp2_with fail
      have hdl : (dup us).length ≤ 800 := by rw [dup_len]; omega
      refine (Hash.hstripes (dup us) A' c' m (by omega) w1 ((Law.Seq.own C1.out.1).from_ (Nat.zero_le _)) (by unfold maxLen; omega) (fun u hu => HZ.out u (mem_dup hu))).mono ?_
      rintro e w2 ⟨A2, c2, rfl, h2, b2⟩
      rw [stripes_dup] at h2
      rw [stripes_dup]
      have H1' := Lib.hid (H1.out.below b2)
      have H2 := Lib.hid h2
      have B2 := Lib.hid (C1.out.below b2).2
      clear h2 b2 H1 C1
      have hq : (Hash.stripes us m).length ≤ 8 := Hash.upTo_len us m 8
      have HR : Hid (Rises (Hash.stripes us m)) := fun i h => rising us m h
      generalize Hash.stripes us m = zs at *
      go_wp2_with fail
      go_loopw [15] (fun i wr => ∃ k : Nat, k ≤ zs.length ∧ i = .int .i64 k ∧ Law.Drawn w2 wr) (fun i _ => zs.length - (intOf i).toNat)
      case atStart => exact ⟨0, Nat.zero_le _, rfl, Law.Drawn.refl _⟩
      case round =>
        obtain ⟨k, hk, rfl, hD⟩ := hrel
        have HD := Lib.hid hD
        clear hD
        by_cases hlt : k < zs.length
        · obtain ⟨g2, o2, rfl, _, l2, q2⟩ := (HD.out.seq H2.out).int hlt
          obtain ⟨g1, o1, e, _, l1, q1⟩ := (HD.out.seq H1'.out).int hlt
          subst e
          by_cases h0 : 0 < k
          · obtain ⟨j, e⟩ : ∃ j, k = j + 1 := ⟨k - 1, by omega⟩
            subst e
            obtain ⟨g1', o1', e, _, _, q3⟩ := (HD.out.seq H1'.out).int (i := j) (by omega)
            injection e with e
            injection e with e1 e2
            subst e1 e2
            have hr := HR.out j hlt
            generalize zs[j] = y at *
            generalize zs[j + 1] = z at *
            have t1 : (z != z) = false := by simp
            have t2 : decide (z ≤ y) = false := by simp; omega
            have t3 : decide (0 < ((j + 1 : Nat) : Int)) = true := by simp
            go_wp2_with fail
            go_quiet (fail)
            go_wp2_with fail
            go_roundw
            case rel => exact ⟨j + 1 + 1, by omega, by go_num, HD.out.drewN _⟩
            case measure => simp [intOf]; omega
          · generalize zs[k] = z at *
            have t1 : (z != z) = false := by simp
            have t3 : decide (0 < (k : Int)) = false := by simp; omega
            go_wp2_with fail
            go_quiet (fail)
            go_wp2_with fail
            go_roundw
            case rel => exact ⟨k + 1, by omega, by go_num, HD.out.drewN _⟩
            case measure => simp [intOf]; omega
        · have BW := Lib.hid (HD.out.below B2.out)
          clear HD
          have hz400 : s.size ≤ maxLen := by unfold maxLen; omega
          go_wp2_with fail
          refine (Hash.hof _ _ hz400).mono ?_
          rintro e w' ⟨rfl, rfl⟩
          go_wp2_with fail
          go_loop [16, 17] (fun h i => ∃ k : Nat, k ≤ t.size ∧ i = .int .i64 k ∧ h = .int .u64 (Hash.of (s.data.toList ++ t.data.toList.take k))) (fun _ i => t.size - (intOf i).toNat)
          case atStart => exact ⟨0, Nat.zero_le _, rfl, by simp⟩
          case round =>
            obtain ⟨k, hk, rfl, rfl⟩ := hrel
            have hu := Hash.of_U (s.data.toList ++ t.data.toList.take k)
            by_cases hlt : k < t.size
            · have H : Hid (Hash.of (s.data.toList ++ t.data.toList.take (k + 1)) = IntKind.u64.wrap (bits .xor .u64 (Hash.of (s.data.toList ++ t.data.toList.take k)) (IntKind.u64.wrap t[k].toNat) * 1099511628211)) := by
                rw [Hash.take_snoc t k hlt, ← List.append_assoc]
                exact Hash.of_snoc _ _
              go_wp2_with fail
              go_round
              case rel => exact ⟨k + 1, by omega, by go_num, by rw [H.out]⟩
              case measure => simp [intOf]; omega
            · have H : Hid (t.data.toList.take k = t.data.toList) := List.take_of_length_le (by simp; omega)
              rw [H.out]
              go_wp2_with fail
              have hst : (s ++ t).size ≤ maxLen := by unfold maxLen; simp; omega
              refine (Hash.hof _ _ hst).mono ?_
              rintro e w' ⟨rfl, rfl⟩
              rw [show (s ++ t).data.toList = s.data.toList ++ t.data.toList from by simp]
              generalize Hash.of (s.data.toList ++ t.data.toList) = y
              go_wp2_with fail
              go_ret
              exact ⟨Hash.ret_bool (by simp), BW.out⟩

set_option maxRecDepth 100000 in
set_option maxHeartbeats 400000 in
theorem walkLong (us : List ByteArray) (A : Option Addr) (c : Nat) (n : Int) (s t : ByteArray) (w : World) (hs : Law.Seq w 0 w.heap.size A (us.map .string)) (hl : us.length ≤ maxLen) (hz : ∀ u ∈ us, u.size ≤ maxLen) (h1 : s.size ≤ maxLen) (h2 : t.size ≤ maxLen)
    (hlo : Hash.longB us = true ∨ Hash.longB us = false ∧ (400 < s.size ∨ s.size ≤ 400 ∧ 400 < t.size)) :
    Calls Try.prog 5 #[.slice A us.length c, .int .u8 n, .string s, .string t] w fun e w' => e = .returned (.bool true) ∧ Below w.heap.size w w' := by
  have HZ := Lib.hid hz
  have HS := Lib.hid hs
  have HL := Lib.hid hl
  unfold maxLen at h1 h2
  clear hz hs hl
  rcases hlo with h | ⟨h, h' | ⟨h', h''⟩⟩
  · have HB := Lib.hid h
    clear h
    go_enter Try.func5, Try.ntmps5
    go_wp2_with fail
    refine (Hash.awake _).mono ?_
    rintro e w' ⟨rfl, rfl⟩
    go_wp2_with fail
    refine (Hash.long us A c _ HS.out HL.out HZ.out).mono ?_
    rintro e w' ⟨rfl, rfl⟩
    rw [HB.out]
    go_wp2_with fail
    refine (Hash.awake _).mono ?_
    rintro e w' ⟨rfl, rfl⟩
    go_wp2_with fail
    go_ret
    exact ⟨rfl, Below.refl _ _⟩
  · have HB := Lib.hid h
    have d1 : decide (400 < (s.size : Int)) = true := by simp; omega
    clear h
    go_enter Try.func5, Try.ntmps5
    go_wp2_with fail
    refine (Hash.awake _).mono ?_
    rintro e w' ⟨rfl, rfl⟩
    go_wp2_with fail
    refine (Hash.long us A c _ HS.out HL.out HZ.out).mono ?_
    rintro e w' ⟨rfl, rfl⟩
    rw [HB.out]
    go_wp2_with fail
    refine (Hash.awake _).mono ?_
    rintro e w' ⟨rfl, rfl⟩
    go_wp2_with fail
    go_ret
    exact ⟨rfl, Below.refl _ _⟩
  · have HB := Lib.hid h
    have d1 : decide (400 < (s.size : Int)) = false := by simp; omega
    have d2 : decide (400 < (t.size : Int)) = true := by simp; omega
    clear h
    go_enter Try.func5, Try.ntmps5
    go_wp2_with fail
    refine (Hash.awake _).mono ?_
    rintro e w' ⟨rfl, rfl⟩
    go_wp2_with fail
    refine (Hash.long us A c _ HS.out HL.out HZ.out).mono ?_
    rintro e w' ⟨rfl, rfl⟩
    rw [HB.out]
    go_wp2_with fail
    refine (Hash.awake _).mono ?_
    rintro e w' ⟨rfl, rfl⟩
    go_wp2_with fail
    go_ret
    exact ⟨rfl, Below.refl _ _⟩

theorem walk0 (us : List ByteArray) (A : Option Addr) (c : Nat) (n : Int) (s t : ByteArray) (hn : (Lit.int .u8 n).wf = true) (w : World) (hs : Law.Seq w 0 w.heap.size A (us.map .string)) (hl : us.length ≤ maxLen) (hlc : us.length ≤ c) (hz : ∀ u ∈ us, u.size ≤ maxLen) (h1 : s.size ≤ maxLen) (h2 : t.size ≤ maxLen) :
    Calls Try.prog 5 #[.slice A us.length c, .int .u8 n, .string s, .string t] w fun e w' => e = .returned (.bool true) ∧ Below w.heap.size w w' := by
  have := bounds_u8 hn
  obtain ⟨k, rfl⟩ := Int.eq_ofNat_of_zero_le this.1
  cases h : Hash.longB us
  · by_cases h3 : s.size ≤ 400
    · by_cases h4 : t.size ≤ 400
      · exact walk us A c k s t (by omega) w hs hl hlc hz h h3 h4
      · exact walkLong us A c _ s t w hs hl hz h1 h2 (.inr ⟨h, .inr ⟨h3, by omega⟩⟩)
    · exact walkLong us A c _ s t w hs hl hz h1 h2 (.inr ⟨h, .inl (by omega)⟩)
  · exact walkLong us A c _ s t w hs hl hz h1 h2 (.inl h)

set_option maxRecDepth 100000 in
theorem lifted (os : Os) (started : os.Started) (H : Type) (enc : TypeId × Value → H) :
    ReturnsInHanded {} Try.checked os 5 .any (Rows.hashOneSpec.pre6 enc Try.prog Try.f5 Rows.hashOneRow.domain false) (Rows.hashOneSpec.post enc Try.prog Try.f5 false true false false) := by
  refine returnsInHanded_of_change (C := Try.checked) own started (by kernel_rfl) Try.func5
    (ChangeSpec.witness6 (enc := enc) (C := Try.checked) false ⟨#[], #[.slice none 0 0, .int .u8 0, .string ⟨#[]⟩, .string ⟨#[]⟩], []⟩ 8 (by kernel_rfl) (by kernel_rfl) (by kernel_rfl) (by kernel_rfl)) ?_
  intro W base args ds gs before hval0 hW hcnd _
  have hval : ∀ (j : Nat) t v, Try.f5.params[j]? = some t → args[j]? = some v → Value.okWide Try.prog W .any base t v := hval0
  have hW' := hW
  obtain ⟨p, q, hA0, hV, rfl, hfz, hnd⟩ := hW
  have hA : DataW.TrodAll enc Try.prog W 0 (fun _ => true) true Try.f5.params.toList args.toList ds p := hA0
  rw [Try.params5] at hA hval
  obtain ⟨v0, vs0, d0, ds0, p0, q0, hargs, rfl, rfl, h0, r0⟩ := trodAll_cons hA
  obtain ⟨v1, vs1, d1, ds1, p1, q1, rfl, rfl, rfl, h1, r1⟩ := trodAll_cons r0
  obtain ⟨v2, vs2, d2, ds2, p2, q2, rfl, rfl, rfl, h2, r2⟩ := trodAll_cons r1
  obtain ⟨v3, vs3, d3, ds3, p3, q3, rfl, rfl, rfl, h3, r3⟩ := trodAll_cons r2
  obtain ⟨rfl, rfl, rfl⟩ := trodAll_nil r3
  obtain rfl : args = #[v0, v1, v2, v3] := by cases args; simp_all
  obtain ⟨A, c, us, rfl, hs, hl, hc, hz⟩ := Law.open_texts Try.underlying28 Try.underlying9 (by kernel_rfl) (hval 0 28 v0 rfl rfl) h0
  obtain ⟨a1, rfl, rfl, rfl, w1⟩ := open_int Try.underlying5 (hval 1 5 v1 rfl rfl) h1
  obtain ⟨a2, rfl, rfl, rfl, w2⟩ := Go.ChangeMaps.open_string Try.underlying9 (hval 2 9 v2 rfl rfl) h2
  obtain ⟨a3, rfl, rfl, rfl, w3⟩ := Go.ChangeMaps.open_string Try.underlying9 (hval 3 9 v3 rfl rfl) h3
  refine (walk0 us A c a1 a2 a3 w1 W hs hl hc hz w2 w3).mono fun e W' ⟨he, bel⟩ => ?_
  subst he
  exact ⟨_, rfl, Law.post_law laidOut (by kernel_rfl) (by kernel_rfl) Try.underlying4 rfl (fun ds h => by match ds, h with | [_, _, _, _], _ => rfl) hW' bel⟩

theorem proved : Rows.HashOneSaid :=
  OpenClaim.holds_of_wide 5 Try.f5 rfl rfl rfl rfl rfl rfl rfl ⟨rfl, rfl, rfl, rfl, rfl⟩ rfl rfl rfl rfl rfl (by kernel_rfl) Try.func5 (by kernel_rfl)
    (of_decide_eq_true (by kernel_rfl)) (by unfold Func.isWrapper; rw [if_neg (by decide +kernel)]; exact ⟨rfl, rfl⟩)
    (fun os started H enc _ => lifted os started H enc)
#print axioms proved
end Go.Proofs.Yteajkmanilfonaa.hashOne
