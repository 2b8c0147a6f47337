/-
  What the calls of layer 2 (hash) that take several users come to, the reference's, and the statements' 'long'.
-/
import Derived.Test.YteajkmanilfonaaHash01
import Derived.Test.YteajkmanilfonaaSlices
namespace Go.Proofs.Yteajkmanilfonaa
open Go.RowKit
namespace Hash
open Door

theorem vint {k : IntKind} {a b : Int} (h : a = b) : Value.int k a = .int k b := by rw [h]
/-- bytes, as 'long' counts them -/
def tot : List ByteArray → Nat
  | [] => 0
  | u :: us => min u.size 401 + tot us
theorem tot_append (l m : List ByteArray) : tot (l ++ m) = tot l + tot m := by
  induction l with
  | nil => simp [tot]
  | cons u l ih => simp [tot, ih]; omega
theorem tot_mem {us : List ByteArray} {u : ByteArray} (h : u ∈ us) : min u.size 401 ≤ tot us := by
  induction us with
  | nil => cases h
  | cons v us ih =>
    simp only [tot]
    rcases List.mem_cons.1 h with rfl | h
    · omega
    · have := ih h; omega
/-- what 'long' counts -/
def weight (us : List ByteArray) : Nat := us.length + tot us
def longB (us : List ByteArray) : Bool := decide (400 < weight us)
theorem short {us : List ByteArray} (h : longB us = false) : us.length ≤ 400 ∧ ∀ u ∈ us, u.size ≤ 400 := by
  unfold longB weight at h
  simp at h
  refine ⟨by omega, fun u hu => ?_⟩
  have := tot_mem hu
  omega
/-- what was counted ahead of place k -/
def wt (us : List ByteArray) (k : Nat) : Nat := us.length + tot (us.take k)
theorem wt_next (us : List ByteArray) (k : Nat) (h : k < us.length) : wt us (k + 1) = wt us k + min us[k].size 401 := by
  unfold wt
  rw [List.take_succ_eq_append_getElem h, tot_append]
  simp only [tot]
  omega
theorem wt_le (us : List ByteArray) (k : Nat) : wt us k ≤ weight us := by
  unfold wt weight
  have := tot_append (us.take k) (us.drop k)
  rw [List.take_append_drop] at this
  omega
theorem wt_all (us : List ByteArray) (k : Nat) (h : ¬ k < us.length) : wt us k = weight us := by
  unfold wt weight
  rw [List.take_of_length_le (by omega)]

set_option maxHeartbeats 400000 in
theorem long (us : List ByteArray) (A : Option Addr) (c : Nat) (w : World) (hs : Law.Seq w 0 w.heap.size A (us.map .string)) (hl : us.length ≤ maxLen) (hz : ∀ u ∈ us, u.size ≤ maxLen) :
    Calls Try.prog 15 #[.slice A us.length c] w fun e w' => e = .returned (.bool (longB us)) ∧ w = w' := by
  unfold maxLen at hl hz
  have HZ := Lib.hid hz
  have HS := Lib.hid hs
  clear hz hs
  go_enter Try.func15, Try.ntmps15
  go_wp2
  go_loop [3, 4] (fun n i => ∃ k : Nat, k ≤ us.length ∧ i = .int .i64 k ∧ n = .int .i64 (wt us k : Nat)) (fun _ i => us.length - (intOf i).toNat)
  case atStart => exact ⟨0, Nat.zero_le _, rfl, by simp [wt, tot]⟩
  case round =>
    obtain ⟨k, hk, rfl, rfl⟩ := hrel
    by_cases hlt : k < us.length
    · by_cases h4 : wt us k ≤ 400
      · have hn := Lib.hid (wt_next us k hlt)
        obtain ⟨b, off, rfl, _, hb, hc⟩ := HS.out.str hlt
        have hu := HZ.out _ (List.getElem_mem hlt)
        generalize us[k] = u at *
        go_wp2
        go_round
        case rel => exact ⟨k + 1, by omega, by go_num, vint (by rw [hn.out]; split <;> omega)⟩
        case measure => simp [intOf]; omega
      · have H : Hid (longB us = true) := by show _ = _; have := wt_le us k; unfold longB; simp; omega
        go_wp2
        go_ret
        exact ⟨ret_bool (by rw [H.out]), rfl⟩
    · have H := Lib.hid (wt_all us k hlt)
      go_wp2
      go_ret
      exact ⟨ret_bool (by rw [H.out]; unfold longB; simp; omega), rfl⟩

/-- is one of the users in stripe i? -/
def met (us : List ByteArray) (n : Int) (i : Nat) : Bool := us.any fun u => stripe u.data.toList n == i
/-- the marks of the eight stripes -/
def marks (us : List ByteArray) (n : Int) : Array Value := #[.bool (met us n 0), .bool (met us n 1), .bool (met us n 2), .bool (met us n 3), .bool (met us n 4), .bool (met us n 5), .bool (met us n 6), .bool (met us n 7)]
theorem met_snoc (us : List ByteArray) (u : ByteArray) (n : Int) (i : Nat) : met (us ++ [u]) n i = (met us n i || stripe u.data.toList n == i) := by simp [met]
theorem marks_no (us : List ByteArray) (u : ByteArray) (n : Int) (h : ¬ stripe u.data.toList n < 8) : marks (us ++ [u]) n = marks us n := by
  have : ∀ i, i < 8 → (stripe u.data.toList n == i) = false := fun i hi => by simp; omega
  simp [marks, met_snoc, this]
theorem marks_yes (us : List ByteArray) (u : ByteArray) (n : Int) (h : stripe u.data.toList n < 8) : (marks us n).setIfInBounds (stripe u.data.toList n) (.bool true) = marks (us ++ [u]) n := by
  generalize hk : stripe u.data.toList n = k at h
  have : ∀ i, met (us ++ [u]) n i = (met us n i || k == i) := fun i => by rw [met_snoc, hk]
  simp only [marks, this]
  match k, h with
  | 0, _ | 1, _ | 2, _ | 3, _ | 4, _ | 5, _ | 6, _ | 7, _ => simp

theorem marks_at (us : List ByteArray) (n : Int) {i : Nat} (h : i < 8) : (marks us n)[i]? = some (.bool (met us n i)) := by
  match i, h with
  | 0, _ | 1, _ | 2, _ | 3, _ | 4, _ | 5, _ | 6, _ | 7, _ => rfl
set_option maxHeartbeats 800000 in
theorem meet (us : List ByteArray) (A : Option Addr) (c : Nat) (n : Int) (hn : n ≤ 9223372036854775807) (w : World) (hs : Law.Seq w 0 w.heap.size A (us.map .string)) (hl : us.length ≤ maxLen) (hz : ∀ u ∈ us, u.size ≤ maxLen) :
    Calls Try.prog 18 #[.slice A us.length c, .int .i64 n] w fun e w' => e = .returned (.agg (marks us n)) ∧ Below w.heap.size w w' := by
  have HZ := Lib.hid hz
  have HS := Lib.hid hs
  unfold maxLen at hl
  clear hz hs
  go_enter Try.func18, Try.ntmps18
  go_wp2
  go_loopw [11] (fun i wr => ∃ k : Nat, k ≤ us.length ∧ i = .int .i64 k ∧ Law.Is wr (w.heap.size + 1) 39 (marks (us.take k) n) ∧ Law.Is wr w.heap.size 39 (marks [] n) ∧ Below w.heap.size w wr) (fun i _ => us.length - (intOf i).toNat)
  case atStart => exact ⟨0, Nat.zero_le _, rfl, Law.Is.new _ _ _ (by simp), (Law.Is.new _ _ _ rfl).alloc _, ((Below.refl _ _).alloc (Nat.le_refl _) _).alloc (by simp) _⟩
  case round =>
    obtain ⟨k, hk, rfl, hI, hI0, hB⟩ := hrel
    by_cases hlt : k < us.length
    · obtain ⟨b, off, rfl, _, hb, hc⟩ := HS.out.str hlt
      have hc' := (hB.cell (p := ⟨b, off + k, none⟩) hb).trans hc
      have hu := HZ.out _ (List.getElem_mem hlt)
      have ht := Lib.hid (List.take_succ_eq_append_getElem hlt)
      clear hc
      generalize us[k] = u at *
      go_wp2_with fail
      refine (hstripe _ _ _ hu hn).mono ?_
      rintro e w' ⟨rfl, rfl⟩
      by_cases h8 : stripe u.data.toList n < 8
      · have hm := Lib.hid (marks_yes (us.take k) u n h8)
        generalize stripe u.data.toList n = j at *
        have f0 := hI.frozen j
        have c0 := hI.cell' (marks_at (us.take k) n h8)
        have l0 := hI.lt
        go_wp2
        go_roundw
        case rel => exact ⟨k + 1, by omega, by go_num, by rw [ht.out]; exact hI.set _ _ hm.out, hI0.far (by simp) _, hB.setCell (by simp) _⟩
        case measure => simp [intOf]; omega
      · have hm := Lib.hid (marks_no (us.take k) u n h8)
        generalize stripe u.data.toList n = j at *
        go_wp2
        go_roundw
        case rel => exact ⟨k + 1, by omega, by go_num, by rw [ht.out, hm.out]; exact hI, hI0, hB⟩
        case measure => simp [intOf]; omega
    · rw [List.take_of_length_le (by omega)] at hI
      have c0 := hI.cell 0
      have c1 := hI.cell 1
      have c2 := hI.cell 2
      have c3 := hI.cell 3
      have c4 := hI.cell 4
      have c5 := hI.cell 5
      have c6 := hI.cell 6
      have c7 := hI.cell 7
      have f0 := hI0.frozen 0
      have f1 := hI0.frozen 1
      have f2 := hI0.frozen 2
      have f3 := hI0.frozen 3
      have f4 := hI0.frozen 4
      have f5 := hI0.frozen 5
      have f6 := hI0.frozen 6
      have f7 := hI0.frozen 7
      have d0 := hI0.cell 0
      have d1 := hI0.cell 1
      have d2 := hI0.cell 2
      have d3 := hI0.cell 3
      have d4 := hI0.cell 4
      have d5 := hI0.cell 5
      have d6 := hI0.cell 6
      have d7 := hI0.cell 7
      have l0 := hI.lt
      simp only [marks, List.getElem?_toArray, List.getElem?_cons_zero, List.getElem?_cons_succ] at c0 c1 c2 c3 c4 c5 c6 c7 d0 d1 d2 d3 d4 d5 d6 d7
      go_wp2
      have hF := hI0.fill8 rfl (.bool (met us n 0)) (.bool (met us n 1)) (.bool (met us n 2)) (.bool (met us n 3)) (.bool (met us n 4)) (.bool (met us n 5)) (.bool (met us n 6)) (.bool (met us n 7))
      have hG := (((((((hB.setCell (p := ⟨w.heap.size, 0, none⟩) (Nat.le_refl _) (.bool (met us n 0))).setCell (p := ⟨w.heap.size, 1, none⟩) (Nat.le_refl _) (.bool (met us n 1))).setCell (p := ⟨w.heap.size, 2, none⟩) (Nat.le_refl _) (.bool (met us n 2))).setCell (p := ⟨w.heap.size, 3, none⟩) (Nat.le_refl _) (.bool (met us n 3))).setCell (p := ⟨w.heap.size, 4, none⟩) (Nat.le_refl _) (.bool (met us n 4))).setCell (p := ⟨w.heap.size, 5, none⟩) (Nat.le_refl _) (.bool (met us n 5))).setCell (p := ⟨w.heap.size, 6, none⟩) (Nat.le_refl _) (.bool (met us n 6))).setCell (p := ⟨w.heap.size, 7, none⟩) (Nat.le_refl _) (.bool (met us n 7))
      clear c0 c1 c2 c3 c4 c5 c6 c7 d0 d1 d2 d3 d4 d5 d6 d7 f0 f1 f2 f3 f4 f5 f6 f7 l0 hI hI0 hB
      generalize ((((((((wr.setCell ⟨w.heap.size, 0, none⟩ (.bool (met us n 0))).setCell ⟨w.heap.size, 1, none⟩ (.bool (met us n 1))).setCell ⟨w.heap.size, 2, none⟩ (.bool (met us n 2))).setCell ⟨w.heap.size, 3, none⟩ (.bool (met us n 3))).setCell ⟨w.heap.size, 4, none⟩ (.bool (met us n 4))).setCell ⟨w.heap.size, 5, none⟩ (.bool (met us n 5))).setCell ⟨w.heap.size, 6, none⟩ (.bool (met us n 6))).setCell ⟨w.heap.size, 7, none⟩ (.bool (met us n 7))) = wf at *
      have c0 := hF.cell 0
      have c1 := hF.cell 1
      have c2 := hF.cell 2
      have c3 := hF.cell 3
      have c4 := hF.cell 4
      have c5 := hF.cell 5
      have c6 := hF.cell 6
      have c7 := hF.cell 7
      simp only [List.getElem?_toArray, List.getElem?_cons_zero, List.getElem?_cons_succ] at c0 c1 c2 c3 c4 c5 c6 c7
      exact bodyPost_ret (v := .agg (marks us n)) (by simp [results, Try.results18, go_sem, marks, c0, c1, c2, c3, c4, c5, c6, c7]) rfl ⟨rfl, hG⟩
end Hash
end Go.Proofs.Yteajkmanilfonaa
