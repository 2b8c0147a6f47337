/-
  HashBoth: whatever the users of two rows and the number, the statement's function returns true, and the arguments read as before. No condition.
-/
import Derived.Test.YteajkmanilfonaaHash03
namespace Go.Proofs.Yteajkmanilfonaa.hashBoth
open Go.ChangeShapes Go.WideShapes Go.ChangeAt Go.RowKit
open Door

/-- is i among the numbers? -/
def has (l : List Int) (i : Nat) : Bool := l.any fun z => z == (i : Int)
def bit (b : Bool) : Int := if b then 1 else 0
/-- eight numbers: 1 where i is among l -/
def ones (l : List Int) : Array Value := #[.int .i64 (bit (has l 0)), .int .i64 (bit (has l 1)), .int .i64 (bit (has l 2)), .int .i64 (bit (has l 3)), .int .i64 (bit (has l 4)), .int .i64 (bit (has l 5)), .int .i64 (bit (has l 6)), .int .i64 (bit (has l 7))]
theorem has_snoc (l : List Int) (k i : Nat) : has (l ++ [(k : Int)]) i = (has l i || k == i) := by simp [has, Law.beq_cast]
theorem ones_snoc (l : List Int) (k : Nat) (h : k < 8) : (ones l).setIfInBounds k (.int .i64 1) = ones (l ++ [(k : Int)]) := by
  simp only [ones, has_snoc]
  match k, h with
  | 0, _ | 1, _ | 2, _ | 3, _ | 4, _ | 5, _ | 6, _ | 7, _ => simp [bit]
theorem ones_at (l : List Int) {i : Nat} (h : i < 8) : (ones l)[i]? = some (.int .i64 (bit (has l i))) := by
  match i, h with
  | 0, _ | 1, _ | 2, _ | 3, _ | 4, _ | 5, _ | 6, _ | 7, _ => rfl
theorem has_append (l m : List Int) (i : Nat) : has (l ++ m) i = (has l i || has m i) := by simp [has]
theorem met_append (a b : List ByteArray) (n : Int) (i : Nat) : Hash.met (a ++ b) n i = (Hash.met a n i || Hash.met b n i) := by simp [Hash.met]
theorem has_stripes (us : List ByteArray) (n : Int) {i : Nat} (h : i < 8) : has (Hash.stripes us n) i = Hash.met us n i := by
  rw [Bool.eq_iff_iff]
  simp only [has, List.any_eq_true, Hash.upTo, List.mem_map, List.mem_filter, List.mem_range]
  constructor
  · rintro ⟨x, ⟨j, ⟨_, hm⟩, rfl⟩, he⟩
    have : j = i := by simp at he; omega
    subst this
    exact hm
  · intro hm
    exact ⟨_, ⟨i, ⟨h, hm⟩, rfl⟩, by simp⟩
theorem mem_stripes {us : List ByteArray} {n z : Int} (h1 : 1 ≤ n) (h : z ∈ Hash.stripes us n) : ∃ i : Nat, z = (i : Int) ∧ i < 8 ∧ (i : Int) < n ∧ Hash.met us n i = true := by
  simp only [Hash.upTo, List.mem_map, List.mem_filter, List.mem_range] at h
  obtain ⟨i, ⟨h8, hm⟩, rfl⟩ := h
  refine ⟨i, rfl, h8, ?_, hm⟩
  simp only [Hash.met, List.any_eq_true] at hm
  obtain ⟨u, _, he⟩ := hm
  have := Hash.stripe_lt u.data.toList h1
  have e : Hash.stripe u.data.toList n = i := by simpa using he
  omega
theorem both (a b : List ByteArray) (n : Int) {i : Nat} (h : i < 8) : has (Hash.stripes a n ++ Hash.stripes b n) i = Hash.met (a ++ b) n i := by
  rw [has_append, has_stripes a n h, has_stripes b n h, met_append]
theorem count (us : List ByteArray) (n : Int) (s : Nat) : ((Hash.upTo us n (s + 1)).length : Int) = (Hash.upTo us n s).length + bit (Hash.met us n s) := by
  cases h : Hash.met us n s
  · rw [Hash.upTo_no h]; simp [bit]
  · rw [Hash.upTo_yes h]; simp [bit]
theorem count_mono (us : List ByteArray) (n : Int) (s t : Nat) : (Hash.upTo us n s).length ≤ (Hash.upTo us n (s + t)).length := by
  induction t with
  | zero => exact Nat.le_refl _
  | succ t ih =>
    have := count us n (s + t)
    refine Nat.le_trans ih ?_
    rw [← Nat.add_assoc]
    cases h : Hash.met us n (s + t) <;> rw [h] at this <;> simp [bit] at this <;> omega
theorem count_le (us : List ByteArray) (n : Int) {s : Nat} (h : s ≤ 8) : (Hash.upTo us n s).length ≤ (Hash.stripes us n).length := by
  have := count_mono us n s (8 - s)
  rwa [show s + (8 - s) = 8 from by omega] at this

/-- what holds while the marks are laid -/
structure St (w wr : World) (A1 A2 : Option Addr) (xs ys l : List Int) : Prop where
  mark : Law.Is wr w.heap.size 34 (ones l)
  x : Law.Seq wr (w.heap.size + 1) wr.heap.size A1 (xs.map (.int .i64))
  y : Law.Seq wr (w.heap.size + 1) wr.heap.size A2 (ys.map (.int .i64))
  bel : Below w.heap.size w wr
theorem St.put {w wr : World} {A1 A2 : Option Addr} {xs ys l : List Int} (h : St w wr A1 A2 xs ys l) {k : Nat} (hk : k < 8) :
    St w (wr.setCell ⟨w.heap.size, k, none⟩ (.int .i64 1)) A1 A2 xs ys (l ++ [(k : Int)]) := by
  have e : (wr.setCell ⟨w.heap.size, k, none⟩ (.int .i64 1)).heap.size = wr.heap.size := by simp [World.setCell]
  exact ⟨h.mark.set _ _ (ones_snoc l k hk), by rw [e]; exact h.x.store (.inl (by simp)) _, by rw [e]; exact h.y.store (.inl (by simp)) _, h.bel.setCell (Nat.le_refl _) _⟩
theorem elemStr : ∃ i, Law.Elem Try.prog 28 9 i (.string ⟨#[]⟩) 1 16 := Law.Elem.of Try.underlying28 (by kernel_rfl) rfl (by decide)

set_option maxRecDepth 100000 in
set_option maxHeartbeats 3200000 in
theorem walk (us vs : List ByteArray) (A B : Option Addr) (c d : Nat) (n : Nat) (hn : n ≤ 255) (w : World) (hs : Law.Seq w 0 w.heap.size A (us.map .string)) (hl : us.length ≤ maxLen) (hz : ∀ u ∈ us, u.size ≤ maxLen)
    (hs' : Law.Seq w 0 w.heap.size B (vs.map .string)) (hl' : vs.length ≤ maxLen) (hz' : ∀ u ∈ vs, u.size ≤ maxLen) (hla : Hash.longB us = false) (hlb : Hash.longB vs = false) :
    Calls Try.prog 6 #[.slice A us.length c, .slice B vs.length d, .int .u8 (n : Int)] w fun e w' => e = .returned (.bool true) ∧ Below w.heap.size w w' := by
  have HZ := Lib.hid hz
  have HS := Lib.hid hs
  have HL := Lib.hid hl
  have HZ' := Lib.hid hz'
  have HS' := Lib.hid hs'
  have HL' := Lib.hid hl'
  have HB := Lib.hid hla
  have HB' := Lib.hid hlb
  have s1 := (Hash.short hla).1
  have s2 := (Hash.short hlb).1
  obtain ⟨i0, hE⟩ := elemStr
  have HE := Lib.hid hE
  clear hz hs hl hz' hs' hl' hla hlb hE
  go_enter Try.func6, Try.ntmps6
  go_wp2_with fail
  refine (Hash.awake _).mono ?_
  rintro e w' ⟨rfl, rfl⟩
  go_wp2_with fail
  refine (Hash.long us A c _ HS.out HL.out HZ.out).mono ?_
  rintro e w' ⟨rfl, rfl⟩
  rw [HB.out]
  go_wp2_with fail
  refine (Hash.long vs B d _ HS'.out HL'.out HZ'.out).mono ?_
  rintro e w' ⟨rfl, rfl⟩
  rw [HB'.out]
  go_wp2_with fail
  have k1 : (1 : Int) ≤ 1 + (n : Int) % 8 := by omega
  have k8 : 1 + (n : Int) % 8 ≤ 8 := by omega
  generalize 1 + (n : Int) % 8 = m at *
  have hI : Law.Is (w.alloc (.cells #[.int .i64 0, .int .i64 0, .int .i64 0, .int .i64 0, .int .i64 0, .int .i64 0, .int .i64 0, .int .i64 0] 34)) w.heap.size 34 (ones []) := Law.Is.new _ _ _ rfl
  have hB0 : Below w.heap.size w (w.alloc (.cells #[.int .i64 0, .int .i64 0, .int .i64 0, .int .i64 0, .int .i64 0, .int .i64 0, .int .i64 0, .int .i64 0] 34)) := (Below.refl _ _).alloc (Nat.le_refl _) _
  have hsz : (w.alloc (.cells #[.int .i64 0, .int .i64 0, .int .i64 0, .int .i64 0, .int .i64 0, .int .i64 0, .int .i64 0, .int .i64 0] 34)).heap.size = w.heap.size + 1 := by simp
  generalize w.alloc (.cells #[.int .i64 0, .int .i64 0, .int .i64 0, .int .i64 0, .int .i64 0, .int .i64 0, .int .i64 0, .int .i64 0] 34) = wA at *
  have HI := Lib.hid hI
  have HB0 := Lib.hid hB0
  have HSZ := Lib.hid hsz
  clear hI hB0 hsz
  refine (Hash.hstripes us A c m (by omega) wA ((HS.out.below HB0.out).more HB0.out.size) HL.out HZ.out).mono ?_
  rintro e w1 ⟨A1, c1, rfl, h1, b1⟩
  have H1 := Lib.hid h1
  have B1 := Lib.hid b1
  have B01 := Lib.hid (HB0.out.trans (b1.mono HB0.out.size))
  clear h1 b1
  go_wp2_with fail
  refine (Hash.hstripes vs B d m (by omega) w1 ((HS'.out.below B01.out).more B01.out.size) HL'.out HZ'.out).mono ?_
  rintro e w2 ⟨A2, c2, rfl, h2, b2⟩
  have ST : Hid (St w w2 A1 A2 (Hash.stripes us m) (Hash.stripes vs m) []) := by
    have e1 := HSZ.out
    have e2 := B1.out.size
    have e3 := b2.size
    exact ⟨(HI.out.below B1.out (by omega)).below b2 (by omega), ((H1.out.below b2).more b2.size).from_ (by omega), h2.from_ (by omega), B01.out.trans (b2.mono B01.out.size)⟩
  clear h2 b2 H1 B1 B01 HI HB0 HSZ
  have hq1 : (Hash.stripes us m).length ≤ 8 := Hash.upTo_len us m 8
  have hq2 : (Hash.stripes vs m).length ≤ 8 := Hash.upTo_len vs m 8
  have F1 := Lib.hid (fun z => mem_stripes (us := us) (z := z) k1)
  have F2 := Lib.hid (fun z => mem_stripes (us := vs) (z := z) k1)
  have F3 := Lib.hid (fun i => both us vs m (i := i))
  generalize Hash.stripes us m = xs at *
  generalize Hash.stripes vs m = ys at *
  go_wp2_with fail
  go_loopw [11] (fun i wr => ∃ k : Nat, k ≤ xs.length ∧ i = .int .i64 k ∧ St w wr A1 A2 xs ys (xs.take k)) (fun i _ => xs.length - (intOf i).toNat)
  case atStart => exact ⟨0, Nat.zero_le _, rfl, ST.out⟩
  case round =>
    obtain ⟨k, hk, rfl, hT⟩ := hrel
    by_cases hlt : k < xs.length
    · obtain ⟨g1, o1, rfl, _, l1, q1⟩ := hT.x.int hlt
      have ht := Lib.hid (List.take_succ_eq_append_getElem hlt)
      obtain ⟨i, e, h8, hm, _⟩ := F1.out _ (List.getElem_mem hlt)
      generalize xs[k] = z at *
      subst e
      have f0 := hT.mark.frozen i
      have c0 := hT.mark.cell' (ones_at _ h8)
      have l0 := hT.mark.lt
      have HT := Lib.hid hT
      clear hT
      go_wp2_with fail
      go_roundw
      case rel => exact ⟨k + 1, by omega, by go_num, by rw [ht.out]; exact HT.out.put h8⟩
      case measure => simp [intOf]; omega
    · rw [List.take_of_length_le (by omega)] at hT
      have HT := Lib.hid hT
      clear hT
      go_wp2_with fail
      go_loopw [12] (fun i wr => ∃ k : Nat, k ≤ ys.length ∧ i = .int .i64 k ∧ St w wr A1 A2 xs ys (xs ++ ys.take k)) (fun i _ => ys.length - (intOf i).toNat)
      case atStart => exact ⟨0, Nat.zero_le _, rfl, by simpa using HT.out⟩
      case round =>
        obtain ⟨k, hk, rfl, hT⟩ := hrel
        by_cases hlt : k < ys.length
        · obtain ⟨g1, o1, rfl, _, l1, q1⟩ := hT.y.int hlt
          have ht := Lib.hid (List.take_succ_eq_append_getElem hlt)
          obtain ⟨i, e, h8, hm, _⟩ := F2.out _ (List.getElem_mem hlt)
          generalize ys[k] = z at *
          subst e
          have f0 := hT.mark.frozen i
          have c0 := hT.mark.cell' (ones_at _ h8)
          have l0 := hT.mark.lt
          have HT := Lib.hid hT
          clear hT
          go_wp2_with fail
          go_roundw
          case rel => exact ⟨k + 1, by omega, by go_num, by rw [ht.out, ← List.append_assoc]; exact HT.out.put h8⟩
          case measure => simp [intOf]; omega
        · rw [List.take_of_length_le (by omega)] at hT
          have HT := Lib.hid hT
          clear hT
          have hsz := HT.out.bel.size
          go_wp2_with (first | (at_builtin; refine Law.wpList_append_seq _ w.heap.size 28 rfl (.tmp 86) (.tmp 87) rfl HE.out _ 0 [] rfl (World.ownsRow_lit _ #[] 0 hsz (by decide) rfl) 0 w.heap.size A us.length c (us.map .string) rfl (by simp) ((HS.out.below HT.out.bel).alloc hsz _) (Law.str_one _) (by unfold maxLen; omega) (by omega) (by simp; omega) ?_; intro v3 w3 own3 grow3; have O3 := Lib.hid own3; have G3 := Lib.hid grow3; clear own3 grow3) | (at_builtin; (refine Law.wpList_append_seq _ w.heap.size 28 rfl (.tmp 88) (.tmp 89) rfl HE.out _ _ _ rfl O3.out 0 w.heap.size B vs.length d (vs.map .string) rfl (by simp) (((HS'.out.below HT.out.bel).alloc hsz _).grown G3.out (by simp; omega) (fun g hg => .inr (by have : wr.heap.size = g := Option.some.inj hg; omega))) (Law.str_one _) (by unfold maxLen; omega) (by omega) (by have := G3.out.size; simp at this; omega) ?_); intro v4 w4 own4 grow4; have O4 := Lib.hid own4; have G4 := Lib.hid grow4; clear own4 grow4))
          have O5 : w4.ownsRow w.heap.size 9 1 v4 (us ++ vs).length ((us ++ vs).map .string) := by simpa using O4.out
          obtain ⟨A4, c4, e4, _⟩ := Law.own_shape O5
          subst e4
          have M3 := ((HT.out.mark.alloc (.cells #[] 9)).grown G3.out (by intro h; have := Option.some.inj h; have := HT.out.mark.lt; simp at *; omega))
          have M4 := Lib.hid (M3.grown G4.out (Law.own_ne O3.out M3 (by decide)))
          have B4 := Lib.hid (((HT.out.bel.alloc hsz _).grown G3.out (by simp; omega) (fun g hg => by have : wr.heap.size = g := Option.some.inj hg; omega)).grown G4.out (by have := G3.out.size; simp at this; omega) (fun g hg => (O3.out.lt g hg).1))
          have S4 := Lib.hid ((Law.Seq.own O5).from_ (Nat.zero_le _))
          clear M3 O5 O3 O4 G3 G4 HT
          refine (Hash.hstripes (us ++ vs) A4 c4 m (by omega) w4 S4.out (by simp [maxLen]; omega) (by intro u hu; rcases List.mem_append.1 hu with h | h; exact HZ.out u h; exact HZ'.out u h)).mono ?_
          rintro e w5 ⟨A5, c5, rfl, h5, b5⟩
          have M5 := Lib.hid (M4.out.below b5 M4.out.lt)
          have B5 := Lib.hid (B4.out.trans (b5.mono B4.out.size))
          have H5 := Lib.hid h5
          clear h5 b5 M4 B4 S4
          have hq5 : (Hash.stripes (us ++ vs) m).length ≤ 8 := Hash.upTo_len (us ++ vs) m 8
          have F5 := Lib.hid (fun z => mem_stripes (us := us ++ vs) (z := z) k1)
          have C5 := Lib.hid (fun s => count (us ++ vs) m s)
          have D5 := Lib.hid (fun s => count_le (us ++ vs) m (s := s))
          have E5 : Hid (Hash.upTo (us ++ vs) m 8 = Hash.stripes (us ++ vs) m) := rfl
          generalize Hash.stripes (us ++ vs) m = zs at *
          go_wp2_with fail
          go_loop [14, 15] (fun q i => ∃ k : Nat, k ≤ zs.length ∧ i = .int .i64 k ∧ q = .int .i64 k) (fun _ i => zs.length - (intOf i).toNat)
          case atStart => exact ⟨0, Nat.zero_le _, rfl, rfl⟩
          case round =>
            obtain ⟨k, hk, rfl, rfl⟩ := hrel
            by_cases hlt : k < zs.length
            · obtain ⟨g1, o1, rfl, _, l1, q1⟩ := H5.out.int hlt
              obtain ⟨i, e, h8, hm, ht⟩ := F5.out _ (List.getElem_mem hlt)
              generalize zs[k] = z at *
              subst e
              have c0 := M5.out.cell' (ones_at _ h8)
              rw [F3.out i h8, ht] at c0
              have l0 := M5.out.lt
              clear ht
              simp only [bit, if_true] at c0
              go_wp2_with fail
              go_round
              case rel => exact ⟨k + 1, by omega, by go_num, by go_num⟩
              case measure => simp [intOf]; omega
            · obtain rfl : k = zs.length := by omega
              go_wp2_with fail
              go_loop [14, 16] (fun q i => ∃ s : Nat, s ≤ 8 ∧ i = .int .i64 s ∧ q = .int .i64 ((zs.length : Int) - (Hash.upTo (us ++ vs) m s).length)) (fun _ i => 8 - (intOf i).toNat)
              case atStart => exact ⟨0, Nat.zero_le _, rfl, by simp [Hash.upTo]⟩
              case round =>
                obtain ⟨s, hs, rfl, rfl⟩ := hrel
                have hd := D5.out s hs
                by_cases hlt : s < 8
                · have c0 := M5.out.cell' (ones_at _ hlt)
                  rw [F3.out s hlt] at c0
                  have l0 := M5.out.lt
                  have hc := Lib.hid (C5.out s)
                  have hb : 0 ≤ bit (Hash.met (us ++ vs) m s) ∧ bit (Hash.met (us ++ vs) m s) ≤ 1 := by unfold bit; split <;> omega
                  generalize bit (Hash.met (us ++ vs) m s) = y at *
                  go_wp2_with fail
                  go_round
                  case rel => exact ⟨s + 1, by omega, by go_num, Hash.vint (by rw [hc.out]; omega)⟩
                  case measure => simp [intOf]; omega
                · obtain rfl : s = 8 := by omega
                  rw [E5.out]
                  go_wp2_with fail
                  go_ret
                  exact ⟨Hash.ret_bool (by simp), B5.out⟩

set_option maxRecDepth 100000 in
set_option maxHeartbeats 400000 in
theorem walkLong (us vs : List ByteArray) (A B : Option Addr) (c d : Nat) (n : Int) (w : World) (hs : Law.Seq w 0 w.heap.size A (us.map .string)) (hl : us.length ≤ maxLen) (hz : ∀ u ∈ us, u.size ≤ maxLen)
    (hs' : Law.Seq w 0 w.heap.size B (vs.map .string)) (hl' : vs.length ≤ maxLen) (hz' : ∀ u ∈ vs, u.size ≤ maxLen) (hlo : Hash.longB us = true ∨ Hash.longB us = false ∧ Hash.longB vs = true) :
    Calls Try.prog 6 #[.slice A us.length c, .slice B vs.length d, .int .u8 n] w fun e w' => e = .returned (.bool true) ∧ Below w.heap.size w w' := by
  have HZ := Lib.hid hz
  have HS := Lib.hid hs
  have HL := Lib.hid hl
  have HZ' := Lib.hid hz'
  have HS' := Lib.hid hs'
  have HL' := Lib.hid hl'
  clear hz hs hl hz' hs' hl'
  rcases hlo with h | ⟨h, h'⟩
  · have HB := Lib.hid h
    clear h
    go_enter Try.func6, Try.ntmps6
    go_wp2_with fail
    refine (Hash.awake _).mono ?_
    rintro e w' ⟨rfl, rfl⟩
    go_wp2_with fail
    refine (Hash.long us A c _ HS.out HL.out HZ.out).mono ?_
    rintro e w' ⟨rfl, rfl⟩
    rw [HB.out]
    go_wp2_with fail
    refine (Hash.awake _).mono ?_
    rintro e w' ⟨rfl, rfl⟩
    go_wp2_with fail
    go_ret
    exact ⟨rfl, Below.refl _ _⟩
  · have HB := Lib.hid h
    have HB' := Lib.hid h'
    clear h h'
    go_enter Try.func6, Try.ntmps6
    go_wp2_with fail
    refine (Hash.awake _).mono ?_
    rintro e w' ⟨rfl, rfl⟩
    go_wp2_with fail
    refine (Hash.long us A c _ HS.out HL.out HZ.out).mono ?_
    rintro e w' ⟨rfl, rfl⟩
    rw [HB.out]
    go_wp2_with fail
    refine (Hash.long vs B d _ HS'.out HL'.out HZ'.out).mono ?_
    rintro e w' ⟨rfl, rfl⟩
    rw [HB'.out]
    go_wp2_with fail
    refine (Hash.awake _).mono ?_
    rintro e w' ⟨rfl, rfl⟩
    go_wp2_with fail
    go_ret
    exact ⟨rfl, Below.refl _ _⟩

theorem walk0 (us vs : List ByteArray) (A B : Option Addr) (c d : Nat) (n : Int) (hn : (Lit.int .u8 n).wf = true) (w : World) (hs : Law.Seq w 0 w.heap.size A (us.map .string)) (hl : us.length ≤ maxLen) (hz : ∀ u ∈ us, u.size ≤ maxLen)
    (hs' : Law.Seq w 0 w.heap.size B (vs.map .string)) (hl' : vs.length ≤ maxLen) (hz' : ∀ u ∈ vs, u.size ≤ maxLen) :
    Calls Try.prog 6 #[.slice A us.length c, .slice B vs.length d, .int .u8 n] w fun e w' => e = .returned (.bool true) ∧ Below w.heap.size w w' := by
  have := bounds_u8 hn
  obtain ⟨k, rfl⟩ := Int.eq_ofNat_of_zero_le this.1
  cases h : Hash.longB us
  · cases h' : Hash.longB vs
    · exact walk us vs A B c d k (by omega) w hs hl hz hs' hl' hz' h h'
    · exact walkLong us vs A B c d _ w hs hl hz hs' hl' hz' (.inr ⟨h, h'⟩)
  · exact walkLong us vs A B c d _ w hs hl hz hs' hl' hz' (.inl h)

set_option maxRecDepth 100000 in
theorem lifted (os : Os) (started : os.Started) (H : Type) (enc : TypeId × Value → H) :
    ReturnsInHanded {} Try.checked os 6 .any (Rows.hashBothSpec.pre6 enc Try.prog Try.f6 Rows.hashBothRow.domain false) (Rows.hashBothSpec.post enc Try.prog Try.f6 false true false false) := by
  refine returnsInHanded_of_change (C := Try.checked) own started (by kernel_rfl) Try.func6
    (ChangeSpec.witness6 (enc := enc) (C := Try.checked) false ⟨#[], #[.slice none 0 0, .slice none 0 0, .int .u8 0], []⟩ 8 (by kernel_rfl) (by kernel_rfl) (by kernel_rfl) (by kernel_rfl)) ?_
  intro W base args ds gs before hval0 hW hcnd _
  have hval : ∀ (j : Nat) t v, Try.f6.params[j]? = some t → args[j]? = some v → Value.okWide Try.prog W .any base t v := hval0
  have hW' := hW
  obtain ⟨p, q, hA0, hV, rfl, hfz, hnd⟩ := hW
  have hA : DataW.TrodAll enc Try.prog W 0 (fun _ => true) true Try.f6.params.toList args.toList ds p := hA0
  rw [Try.params6] at hA hval
  obtain ⟨v0, vs0, d0, ds0, p0, q0, hargs, rfl, rfl, h0, r0⟩ := trodAll_cons hA
  obtain ⟨v1, vs1, d1, ds1, p1, q1, rfl, rfl, rfl, h1, r1⟩ := trodAll_cons r0
  obtain ⟨v2, vs2, d2, ds2, p2, q2, rfl, rfl, rfl, h2, r2⟩ := trodAll_cons r1
  obtain ⟨rfl, rfl, rfl⟩ := trodAll_nil r2
  obtain rfl : args = #[v0, v1, v2] := by cases args; simp_all
  obtain ⟨A, c, us, rfl, hs, hl, hc, hz⟩ := Law.open_texts Try.underlying28 Try.underlying9 (by kernel_rfl) (hval 0 28 v0 rfl rfl) h0
  obtain ⟨B, d, vs, rfl, hs', hl', hc', hz'⟩ := Law.open_texts Try.underlying28 Try.underlying9 (by kernel_rfl) (hval 1 28 v1 rfl rfl) h1
  obtain ⟨a2, rfl, rfl, rfl, w2⟩ := open_int Try.underlying5 (hval 2 5 v2 rfl rfl) h2
  refine (walk0 us vs A B c d a2 w2 W hs hl hz hs' hl' hz').mono fun e W' ⟨he, bel⟩ => ?_
  subst he
  exact ⟨_, rfl, Law.post_law laidOut (by kernel_rfl) (by kernel_rfl) Try.underlying4 rfl (fun ds h => by match ds, h with | [_, _, _], _ => rfl) hW' bel⟩

theorem proved : Rows.HashBothSaid :=
  OpenClaim.holds_of_wide 6 Try.f6 rfl rfl rfl rfl rfl rfl rfl ⟨rfl, rfl, rfl, rfl, rfl⟩ rfl rfl rfl rfl rfl (by kernel_rfl) Try.func6 (by kernel_rfl)
    (of_decide_eq_true (by kernel_rfl)) (by unfold Func.isWrapper; rw [if_neg (by decide +kernel)]; exact ⟨rfl, rfl⟩)
    (fun os started H enc _ => lifted os started H enc)
#print axioms proved
end Go.Proofs.Yteajkmanilfonaa.hashBoth
