/-
  The reader of bytes (layer 12): next, left, long, user; User, Pick.
-/
import Derived.Test.YtlkbfnpncomifaaDoorOcTab
import Derived.Test.YtlkbfnpncomifaaDoorRings
namespace Go.Proofs.YtlkbfnpncomifaaDoor
open Go.RowKit Go.Lib
attribute [local go_sem] Oper.semAt_some
namespace Opx
open Go.Law
/-- a reader at block g that stands at place i of the bytes b, which lie below B -/
structure Rd (w : World) (B g : Nat) (b : List Int) (i : Nat) : Prop where
  box : ∃ A c, Is w g 53 #[.slice A (b.drop i).length c] ∧ Seq w 0 B A ((b.drop i).map (.int .u8)) ∧ (b.drop i).length ≤ c
  le : B ≤ g
  ok : Bytes b
  len : b.length ≤ maxLen
theorem Rd.touch {w w' : World} {B g i : Nat} {b : List Int} {T : Nat → Prop} (h : Rd w B g b i) (ht : Law.Touch w w' T) (hn : ¬ T g) (hB : ∀ k, T k → B ≤ k) : Rd w' B g b i := by
  obtain ⟨A, c, h1, h2, h3⟩ := h.box
  exact ⟨⟨A, c, ht.is h1 hn, ht.seq h2 (Nat.le_trans h.le (Nat.le_of_lt h1.lt)) (fun k hk => .inr (hB k hk)), h3⟩, h.le, h.ok, h.len⟩
theorem Rd.below {w w' : World} {B g i : Nat} {b : List Int} (h : Rd w B g b i) (hb : Below w.heap.size w w') : Rd w' B g b i := h.touch (Law.Touch.of_below hb fun _ => False) (fun h => h) (fun _ h => h.elim)
theorem Rd.lt {w : World} {B g i : Nat} {b : List Int} (h : Rd w B g b i) : g < w.heap.size := by obtain ⟨A, c, h1, h2, h3⟩ := h.box; exact h1.lt
set_option maxRecDepth 100000 in
theorem next {w : World} {B g i : Nat} {b : List Int} (h : Rd w B g b i) {x : Int} (hx : at_ b i = x) : Calls Tryd.prog 31 #[.pointer (some ⟨g, 0, none⟩)] w fun e w' => e = .returned (.int .u8 x) ∧ Rd w' B g b (i + 1) ∧ Law.Touch w w' (fun k => k = g) := by
  subst hx
  obtain ⟨⟨A, c, hI, hS, hc⟩, hB, hok, hlen⟩ := h
  have HOK := Lib.hid hok
  have HLE := Lib.hid hlen
  have x0 : w.cell? ⟨g, 0, none⟩ = some (.slice A (b.drop i).length c) := hI.cell' rfl
  have f0 := hI.frozen 0
  have l0 := hI.lt
  rcases Nat.lt_or_ge i b.length with hi | hi
  · obtain ⟨q, off, rfl, _, hq, hcell⟩ := Seq.int (k := .u8) hS (i := 0) (by simp; omega)
    have he : (b.drop i)[0]'(by simp; omega) = at_ b i := by simp [at_, List.getD_eq_getElem?_getD, List.getElem?_eq_getElem hi]
    rw [he] at hcell
    simp only [Nat.add_zero] at hcell
    have lq := block_lt_of_cell hcell
    simp only at lq
    have d1 : (1 : Int) ≤ ((b.drop i).length : Int) := by simp; omega
    have HI := Lib.hid hI
    have HS := Lib.hid hS
    have hd : b.drop (i + 1) = (b.drop i).drop 1 := by rw [List.drop_drop]
    have HD := Lib.hid hd
    have hn : 1 ≤ (b.drop i).length := by simp; omega
    clear hd hI hS he hok hlen
    generalize b.drop i = xs at *
    have d0 : ((xs.length : Int) == 0) = false := by rw [beq_eq_false_iff_ne]; omega
    generalize at_ b i = x at *
    have hne : q ≠ g := by omega
    go_enter Tryd.func31, Tryd.ntmps31
    go_wp2_with fail
    · go_ret
      refine ⟨rfl, ⟨⟨some ⟨q, off, none⟩, 0, ?_, ?_, ?_⟩, hB, HOK.out, HLE.out⟩, Law.Touch.store _ _ _ rfl⟩
      · rw [HD.out, List.length_drop]; exact HI.out.set 0 _ rfl
      · rw [HD.out, List.drop_of_length_le (by omega)]; exact Seq.nil
      · rw [HD.out, List.length_drop]; omega
    · go_ret
      refine ⟨rfl, ⟨⟨some ⟨q, off + 1, none⟩, c - 1, ?_, ?_, ?_⟩, hB, HOK.out, HLE.out⟩, Law.Touch.store _ _ _ rfl⟩
      · rw [HD.out, List.length_drop]; exact HI.out.set 0 _ rfl
      · rw [HD.out]
        have h := (HS.out.store (p := ⟨g, 0, none⟩) (.inr hB) (.slice (some ⟨q, off + 1, none⟩) (xs.length - 1) (c - 1))).part (A' := some ⟨q, off + 1, none⟩) (i := 1) (n := xs.length) (fun b' off' h1 _ _ => by cases h1; rfl)
        rw [List.take_of_length_le (by simp), ← List.map_drop] at h
        exact h
      · rw [HD.out, List.length_drop]; omega
  · have hz : b.drop i = [] := List.drop_of_length_le hi
    have HI := Lib.hid hI
    rw [hz] at x0 HI hc
    simp only [List.length_nil] at x0
    clear hI hS
    go_enter Tryd.func31, Tryd.ntmps31
    go_wp2_with fail
    go_ret
    have hz2 : b.drop (i + 1) = [] := List.drop_of_length_le (by omega)
    exact ⟨by rw [at_behind hi]; rfl, ⟨⟨A, c, by rw [hz2]; exact HI.out, by rw [hz2]; exact Seq.nil, by rw [hz2]; exact Nat.zero_le _⟩, hB, HOK.out, HLE.out⟩, Law.Touch.refl _ _⟩
theorem rem_pos {a n : Int} (h : 0 ≤ a) : a.tmod n = a % n := Int.tmod_eq_emod_of_nonneg h
set_option maxRecDepth 100000 in
theorem left {w : World} {B g i : Nat} {b : List Int} (h : Rd w B g b i) (n : Int) (hn : 0 < n ∧ n ≤ 100) {x : Int} (hx : at_ b i % n = x) : Calls Tryd.prog 30 #[.pointer (some ⟨g, 0, none⟩), .int .i64 n] w fun e w' => e = .returned (.int .i64 x) ∧ Rd w' B g b (i + 1) ∧ Law.Touch w w' (fun k => k = g) := by
  subst hx
  have hb := h.ok.at i
  have hlt := h.lt
  have n0 : (n == 0) = false := by rw [beq_eq_false_iff_ne]; omega
  have n1 : (n == -1) = false := by rw [beq_eq_false_iff_ne]; omega
  have hm := rem_pos (n := n) hb.1
  have hr := Int.emod_nonneg (at_ b i) (show n ≠ 0 by omega)
  have hr2 := Int.emod_lt_of_pos (at_ b i) hn.1
  have HN := Lib.hid (next h rfl)
  clear h
  go_enter Tryd.func30, Tryd.ntmps30
  go_wp2_with fail
  refine HN.out.mono ?_
  rintro e w1 ⟨rfl, h1, t1⟩
  have H1 := Lib.hid h1
  have T1 := Lib.hid t1
  clear h1 t1
  go_wp2_with fail
  go_ret
  exact ⟨rfl, H1.out, T1.out⟩
set_option maxRecDepth 100000 in
theorem long0 (n : Int) (hn : 0 ≤ n ∧ n ≤ 255) (w : World) : Calls Tryd.prog 25 #[.int .u8 n] w fun e w' => e = .returned (.int .u64 (longI n)) ∧ w' = w := by
  by_cases h : n < 192
  · have d0 : decide (n < 192) = true := decide_eq_true h
    have e : longI n = n := if_pos h
    rw [e]
    go_enter Tryd.func25, Tryd.ntmps25
    go_wp2_with fail
    go_ret
    exact ⟨rfl, rfl⟩
  · have d0 : decide (n < 192) = false := decide_eq_false h
    have e : longI n = 18446744073709551615 - (255 - n) := if_neg h
    rw [e]
    go_enter Tryd.func25, Tryd.ntmps25
    go_wp2_with fail
    go_ret
    exact ⟨rfl, rfl⟩
set_option maxRecDepth 100000 in
theorem user0 (n : Int) (hn : 0 ≤ n ∧ n ≤ 255) (w : World) (hT : Tabs w) : Calls Tryd.prog 15 #[.int .u8 n] w fun e w' => e = .returned (.string (userB n)) ∧ w' = w := by
  obtain ⟨k, hk⟩ := Int.eq_ofNat_of_zero_le (show 0 ≤ n % 10 by omega)
  have hk2 : k < userL.length := by show k < 10; omega
  have c0 : w.cell? ⟨0, k, none⟩ = some (.string (userB n)) := by
    refine hT.names k _ ?_
    unfold userB
    rw [hk, Int.toNat_natCast, List.getD_eq_getElem?_getD, List.getElem?_eq_getElem hk2]
    rfl
  have l0 := block_lt_of_cell c0
  simp only at l0
  have hm := rem_pos (n := 10) hn.1
  have hk3 : k < 10 := hk2
  generalize userB n = u at *
  go_enter Tryd.func15, Tryd.ntmps15
  go_wp2_with fail
  go_ret
  exact ⟨rfl, rfl⟩
set_option maxRecDepth 100000 in
theorem long {w : World} {B g i : Nat} {b : List Int} (h : Rd w B g b i) {x : Int} (hx : longI (at_ b i) = x) : Calls Tryd.prog 32 #[.pointer (some ⟨g, 0, none⟩)] w fun e w' => e = .returned (.int .u64 x) ∧ Rd w' B g b (i + 1) ∧ Law.Touch w w' (fun k => k = g) := by
  subst hx
  have hb := h.ok.at i
  have HN := Lib.hid (next h rfl)
  clear h
  go_enter Tryd.func32, Tryd.ntmps32
  go_wp2_with fail
  refine HN.out.mono ?_
  rintro e w1 ⟨rfl, h1, t1⟩
  have H1 := Lib.hid h1
  have T1 := Lib.hid t1
  clear h1 t1
  go_wp2_with fail
  refine (long0 _ hb w1).mono ?_
  rintro e w2 ⟨rfl, rfl⟩
  go_wp2_with fail
  go_ret
  exact ⟨rfl, H1.out, T1.out⟩
theorem Tabs.touch {w w' : World} {T : Nat → Prop} (h : Tabs w) (ht : Law.Touch w w' T) (hn : ¬ T 0) : Tabs w' :=
  ⟨fun k u hk => (World.cell?_of_block (ht.block 0 (block_lt_of_cell (h.names k u hk)) hn)).trans (h.names k u hk)⟩
set_option maxRecDepth 100000 in
theorem user {w : World} {B g i : Nat} {b : List Int} (h : Rd w B g b i) (hT : Tabs w) (hg : 0 < g) {x : ByteArray} (hx : userB (at_ b i) = x) : Calls Tryd.prog 37 #[.pointer (some ⟨g, 0, none⟩)] w fun e w' => e = .returned (.string x) ∧ Rd w' B g b (i + 1) ∧ Law.Touch w w' (fun k => k = g) := by
  subst hx
  have hb := h.ok.at i
  have HN := Lib.hid (next h rfl)
  have HT := Lib.hid hT
  clear h hT
  go_enter Tryd.func37, Tryd.ntmps37
  go_wp2_with fail
  refine HN.out.mono ?_
  rintro e w1 ⟨rfl, h1, t1⟩
  have H1 := Lib.hid h1
  have T1 := Lib.hid t1
  have HT1 := Lib.hid (HT.out.touch t1 (by omega))
  clear h1 t1
  go_wp2_with fail
  refine (user0 _ hb w1 HT1.out).mono ?_
  rintro e w2 ⟨rfl, rfl⟩
  go_wp2_with fail
  go_ret
  exact ⟨rfl, H1.out, T1.out⟩
set_option maxRecDepth 100000 in
theorem pick (a c : Int) (ha : 0 ≤ a ∧ a ≤ 255) (hc : 0 ≤ c ∧ c ≤ 255) (w : World) {p : Pk} (hp : pickP a c = p) : Calls Tryd.prog 13 #[.int .u8 a, .int .u8 c] w fun e w' => e = .returned (.agg #[.int .i64 p.1, .int .i64 p.2.1, .int .u64 p.2.2]) ∧ Below w.heap.size w w' := by
  subst hp
  have hm := rem_pos (n := 16) ha.1
  have hm0 := Int.emod_nonneg a (show (16 : Int) ≠ 0 by omega)
  have hm1 := Int.emod_lt_of_pos a (show (0 : Int) < 16 by omega)
  by_cases h : a % 16 < 8
  · have d0 : decide (a % 16 < 8) = true := decide_eq_true h
    have e : pickP a c = (0, a % 16, 0) := if_pos h
    rw [e]
    go_enter Tryd.func13, Tryd.ntmps13
    go_wp2_with fail
    exact bodyPost_ret (v := .agg #[.int .i64 (0), .int .i64 (a % 16), .int .u64 (0)]) (by simp [results, Tryd.results13, go_sem]) rfl ⟨rfl, by repeat (first | exact Below.refl _ _ | refine Below.alloc ?_ (Nat.le_refl _) _ | refine Below.setCell ?_ (Nat.le_refl _) _)⟩
  · have d0 : decide (a % 16 < 8) = false := decide_eq_false h
    by_cases h2 : a % 16 ≤ 12
    · have d1 : decide (a % 16 ≤ 12) = true := decide_eq_true h2
      have e : pickP a c = (1, 0, 0) := by unfold pickP; rw [if_neg h, if_pos h2]
      rw [e]
      go_enter Tryd.func13, Tryd.ntmps13
      go_wp2_with fail
      exact bodyPost_ret (v := .agg #[.int .i64 (1), .int .i64 (0), .int .u64 (0)]) (by simp [results, Tryd.results13, go_sem]) rfl ⟨rfl, by repeat (first | exact Below.refl _ _ | refine Below.alloc ?_ (Nat.le_refl _) _ | refine Below.setCell ?_ (Nat.le_refl _) _)⟩
    · have d1 : decide (a % 16 ≤ 12) = false := decide_eq_false h2
      have e : pickP a c = (2, 0, longI c) := by unfold pickP; rw [if_neg h, if_neg h2]
      rw [e]
      go_enter Tryd.func13, Tryd.ntmps13
      go_wp2_with fail
      refine (long0 c hc _).mono ?_
      rintro e w1 ⟨rfl, rfl⟩
      go_wp2_with fail
      exact bodyPost_ret (v := .agg #[.int .i64 (2), .int .i64 (0), .int .u64 (longI c)]) (by simp [results, Tryd.results13, go_sem]) rfl ⟨rfl, by repeat (first | exact Below.refl _ _ | refine Below.alloc ?_ (Nat.le_refl _) _ | refine Below.setCell ?_ (Nat.le_refl _) _)⟩
end Opx
end Go.Proofs.YtlkbfnpncomifaaDoor
