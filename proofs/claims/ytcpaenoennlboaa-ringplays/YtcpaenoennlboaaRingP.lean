/-
  What a queue's All comes to, handed the statement's own function; the reference's Put; lists that lie apart from a queue.
-/
import Derived.Test.YtcpaenoennlboaaRing01
import Derived.Deep.SlicePairs
namespace Go.Law
open Go.RowKit
/-- the slice at A holds the cells xs, in a block that is none of S -/
def Lies (w : World) (S : Nat → Prop) (A : Option Addr) (xs : List Value) : Prop :=
  xs ≠ [] → ∃ b off, A = some ⟨b, off, none⟩ ∧ ¬ S b ∧ b < w.heap.size ∧ ∀ i u, xs[i]? = some u → w.cell? ⟨b, off + i, none⟩ = some u
section
variable {w w' : World} {S S' : Nat → Prop} {A : Option Addr} {xs : List Value}
theorem Lies.nil : Lies w S A [] := fun h => absurd rfl h
theorem Lies.touch (h : Lies w S A xs) (ht : Touch w w' S) (hs : ∀ k, S' k → S k ∨ w.heap.size ≤ k) : Lies w' S' A xs := fun hn => by
  obtain ⟨b, off, e, h1, h2, hc⟩ := h hn
  exact ⟨b, off, e, fun h3 => by rcases hs b h3 with h4 | h4; exact h1 h4; omega, Nat.lt_of_lt_of_le h2 ht.size, fun i u hu => (World.cell?_of_block (ht.block b h2 h1)).trans (hc i u hu)⟩
theorem Lies.below (h : Lies w S A xs) (hb : Below w.heap.size w w') : Lies w' S A xs := h.touch (Touch.of_below hb S) (fun _ hk => .inl hk)
theorem Lies.seq (h : Lies w S A xs) : Seq w 0 w.heap.size A xs := fun hn => by
  obtain ⟨b, off, e, _, h2, hc⟩ := h hn
  exact ⟨b, off, e, Nat.zero_le _, h2, hc⟩
theorem Lies.of {lo : Nat} (h : Seq w lo w.heap.size A xs) (hs : ∀ k, S k → k < lo) : Lies w S A xs := fun hn => by
  obtain ⟨b, off, e, h1, h2, hc⟩ := h hn
  exact ⟨b, off, e, fun h3 => by have := hs b h3; omega, h2, hc⟩
end
end Go.Law
namespace Go.Proofs.Ytcpaenoennlboaa
open Go.RowKit
namespace Ring
/-- the box B holds a slice that owns these numbers -/
def Holds (W : World) (n₀ B : Nat) (zs : List Int) : Prop := ∃ v, Boxed W B 26 v ∧ W.ownsRow n₀ 3 1 v zs.length (zs.map (.int .i64))

set_option maxHeartbeats 800000 in
theorem one (x : Int) (zs : List Int) (stop n₀ B p : Nat) (W : World) (hs : stop ≤ 255) (h : Holds W n₀ B zs) (hB : n₀ ≤ B) (hn : n₀ ≤ W.heap.size) (hp : W.cell? ⟨p, 0, none⟩ = some (.int .u8 (stop : Int))) (hpn : p < n₀) (hl : zs.length ≤ 1000) :
    Calls Try.prog 15 #[.int .i64 x, .pointer (some ⟨B, 0, none⟩), .pointer (some ⟨p, 0, none⟩)] W fun e W' => e = .returned (.bool (decide (zs.length + 1 ≤ stop))) ∧ Holds W' n₀ B (zs ++ [x]) ∧ Below n₀ W W' := by
  obtain ⟨i0, hE⟩ := RingI.elem
  have HE := Lib.hid hE
  obtain ⟨v, hv, hrow⟩ := h
  have hc := hv.cell
  have HV := Lib.hid hv
  have HR := Lib.hid hrow
  clear hE hv hrow
  go_enter Try.func15, Try.ntmps15
  go_wp2_with (at_builtin; refine wpList_append_own _ rfl _ _ 26 rfl n₀ 3 i0 (.int .i64 0) 1 8 HE.out.ut HE.out.info HE.out.zero HE.out.sz HE.out.by_ HE.out.cells HE.out.pos _ _ _ rfl (HR.out.alloc _) ⟨W.heap.size, 0, none⟩ 1 1 [.int .i64 x] rfl rfl (Law.new_one _ _ _) (Law.one_int _ _) (by unfold maxLen; omega) (by omega) (by simp; omega) ?_)
  intro v' w2 hown' hgrow _
  obtain ⟨g', cap', rfl⟩ := ownsRow_succ hown'
  obtain ⟨hv1, hv2, hr2, hk2, hb2⟩ := HV.out.appended (by decide) HR.out hn hB hown' hgrow
  have hc1 := hv1.cell
  have hf1 := hv1.frozen
  have l1 := hv1.lt
  have hp2 := (hb2.cell (p := ⟨p, 0, none⟩) hpn).trans hp
  have hc2 := hv2.cell
  have H2 := Lib.hid hv2
  have H3 := Lib.hid hr2
  have H4 := Lib.hid hb2
  clear hown' hgrow hv1 hv2 hr2 hk2 hb2 hp hc HV HR
  go_wp2_with fail
  go_ret
  exact ⟨ret_bool (by rw [Bool.eq_iff_iff]; simp; omega), ⟨_, H2.out, by simpa using H3.out⟩, H4.out⟩

set_option maxRecDepth 100000 in
set_option maxHeartbeats 1600000 in
theorem each (zs : List Int) (stop n₀ B p q c : Nat) (A : Option Addr) (W : World) (hst : stop ≤ 255) (h : Holds W n₀ B []) (hB : n₀ ≤ B) (hn : n₀ ≤ W.heap.size) (hp : W.cell? ⟨p, 0, none⟩ = some (.int .u8 (stop : Int))) (hpn : p < n₀)
    (hq : W.cell? ⟨q, 0, none⟩ = some (.slice A zs.length c)) (hs : Law.Seq W 0 n₀ A (zs.map (.int .i64))) :
    Calls Try.prog 22 #[.func (.func 15) #[] #[.pointer (some ⟨B, 0, none⟩), .pointer (some ⟨p, 0, none⟩)], .pointer (some ⟨q, 0, none⟩)] W fun e W' => (∃ v, e = .returned v) ∧ Holds W' n₀ B (zs.take (stop + 1)) ∧ Below n₀ W W' := by
  have HS := Lib.hid hs
  have HH := Lib.hid h
  have HP := Lib.hid hp
  clear hs h hp
  go_enter Try.func22, Try.ntmps22
  go_wp2_with fail
  go_loopw [7] (fun i wr => ∃ k : Nat, k ≤ zs.length ∧ i = .int .i64 k ∧ k ≤ stop ∧ Holds wr n₀ B (zs.take k) ∧ Below n₀ W wr) (fun i _ => zs.length - (intOf i).toNat)
  case atStart => exact ⟨0, Nat.zero_le _, rfl, Nat.zero_le _, by simpa using HH.out, Below.refl _ _⟩
  case round =>
    obtain ⟨k, hk, rfl, hks, hH, hB'⟩ := hrel
    have H1 := Lib.hid hH
    have B1 := Lib.hid hB'
    clear hH hB' HH
    by_cases hlt : k < zs.length
    · have ht := Lib.hid (List.take_succ_eq_append_getElem hlt)
      obtain ⟨b, off, e, _, hb, hc0⟩ := HS.out.int hlt
      have hc := (B1.out.cell (p := ⟨b, off + k, none⟩) hb).trans hc0
      subst e
      clear hc0
      have hlen : (zs.take k).length = k := by simp; omega
      have hl' : (zs.take k).length ≤ 1000 := by omega
      have HL := Lib.hid hlen
      clear hlen
      have hs1 : n₀ ≤ wr.heap.size := by have := B1.out.size; omega
      generalize zs[k] = x at *
      go_wp2_with fail
      refine (one x (zs.take k) stop n₀ B p wr hst H1.out hB hs1 ((B1.out.cell (p := ⟨p, 0, none⟩) hpn).trans HP.out) hpn hl').mono ?_
      rintro e w2 ⟨rfl, h2, b2⟩
      rw [← ht.out] at h2
      rw [HL.out]
      have H2 := Lib.hid h2
      have B2 := Lib.hid (B1.out.trans b2)
      clear h2 b2 H1 B1
      by_cases hk1 : k + 1 ≤ stop
      · have d1 : decide (k + 1 ≤ stop) = true := by simpa using hk1
        rw [d1]
        go_wp2_with fail
        go_roundw
        case rel => exact ⟨k + 1, by omega, by go_num, hk1, H2.out, B2.out⟩
        case measure => simp [intOf]; omega
      · have d1 : decide (k + 1 ≤ stop) = false := by simpa using hk1
        have hks' : k = stop := by omega
        subst hks'
        rw [d1]
        go_wp2_with fail
        refine bodyPost_ret (results_none rfl _ _ _) rfl ?_
        exact ⟨⟨_, rfl⟩, H2.out, B2.out⟩
    · have he : Hid (zs.take k = zs.take (stop + 1)) := by show _ = _; rw [List.take_of_length_le (by omega), List.take_of_length_le (by omega)]
      go_wp2_with fail
      go_end0
      exact ⟨⟨_, rfl⟩, by rw [← he.out]; exact H1.out, B1.out⟩

theorem items {w : World} {base : Nat} {S : Nat → Prop} {b room : Nat} {zs : List Int} {lost : Bool} (h : RingI.At w base S b room zs lost) : ∃ A c, w.cell? ⟨b, 1, none⟩ = some (.slice A zs.length c) ∧ Law.Seq w 0 w.heap.size A (zs.map (.int .i64)) := by
  obtain ⟨v, hv⟩ := h
  have c1 := hv.box.cell 1
  have hrow := hv.row
  rw [List.length_map] at hrow
  obtain ⟨A, c, rfl, _⟩ := Law.own_shape hrow
  exact ⟨A, c, by simpa using c1, Law.Seq.own hrow⟩
theorem all (w : World) (b : Nat) (A : Option Addr) (m c : Nat) (hc : w.cell? ⟨b, 1, none⟩ = some (.slice A m c)) :
    Calls Try.prog 14 #[.pointer (some ⟨b, 0, none⟩)] w fun e w' => e = .returned (.func (.func 22) #[] #[.pointer (some ⟨w.heap.size, 0, none⟩)]) ∧ w.alloc (.cells #[.slice A m c] 26) = w' :=
  (callsIn_wide (n := 1)).1 (RingI.all_in Fence.wide 1 (fun _ => trivial) rfl w b A m c hc)

/-- behind the reference's Put -/
def RefPut (w : World) (A : Option Addr) (c : Nat) (zs : List Int) (room x : Int) (e : Ending) (w' : World) : Prop :=
  ((zs.length : Int) < room ∧ ∃ A' c', e = .returned (.tuple #[.slice A' (zs ++ [x]).length c', .int .i64 1]) ∧ (zs ++ [x]).length ≤ c' ∧ Law.Seq w' w.heap.size w'.heap.size A' ((zs ++ [x]).map (.int .i64)) ∧ Below w.heap.size w w') ∨
  (¬ (zs.length : Int) < room ∧ e = .returned (.tuple #[.slice A zs.length c, .int .i64 0]) ∧ w = w')

set_option maxHeartbeats 800000 in
theorem refPut (zs : List Int) (A : Option Addr) (c : Nat) (room x : Int) (w : World) (hs : Law.Seq w 0 w.heap.size A (zs.map (.int .i64))) (hl : zs.length ≤ 1000) :
    Calls Try.prog 12 #[.slice A zs.length c, .int .i64 room, .int .i64 x] w (RefPut w A c zs room x) := by
  obtain ⟨i0, hE⟩ := RingI.elem
  have HE := Lib.hid hE
  have HS := Lib.hid hs
  clear hE hs
  by_cases hlt : (zs.length : Int) < room
  · have d1 : decide ((zs.length : Int) < room) = true := by simpa using hlt
    have HLT := Lib.hid hlt
    have HO : Hid ((w.alloc (.cells #[] 3)).ownsRow w.heap.size 3 1 (.slice (some ⟨w.heap.size, 0, none⟩) 0 0) 0 []) := World.ownsRow_lit w #[] 0 (Nat.le_refl _) (by unfold maxLen; omega) rfl
    have HS1 := Lib.hid (HS.out.alloc (Nat.le_refl _) (.cells #[] 3))
    have H1 : Hid (∀ u ∈ zs.map (Value.int .i64), u.oneCell' = true) := fun v hv => by
      obtain ⟨_, _, rfl⟩ := List.mem_map.1 hv
      rfl
    clear hlt
    go_enter Try.func12, Try.ntmps12
    go_wp2_with (at_builtin; refine Law.wpList_append_seq _ w.heap.size 26 rfl _ _ rfl HE.out _ 0 [] rfl HO.out 0 w.heap.size A zs.length c (zs.map (.int .i64)) rfl (by simp) HS1.out H1.out (by unfold maxLen; omega) (by omega) (by simp) ?_)
    intro v1 w1 hown hgrow
    have B1 : Below w.heap.size w w1 := ((Below.refl _ w).alloc (Nat.le_refl _) (.cells #[] 3)).grown hgrow (by simp) (fun k hk => by have : w.heap.size = k := Option.some.inj hk; omega)
    have HB := Lib.hid B1
    have s1 := B1.size
    obtain ⟨A1, c1, e1, hc1⟩ := Law.own_shape hown
    subst e1
    have HW := Lib.hid hown
    clear hown hgrow B1 HS1 HO H1
    go_wp2_with (at_builtin; refine wpList_append_own _ rfl _ _ 26 rfl w.heap.size 3 i0 (.int .i64 0) 1 8 HE.out.ut HE.out.info HE.out.zero HE.out.sz HE.out.by_ HE.out.cells HE.out.pos _ _ _ rfl (HW.out.alloc _) ⟨w1.heap.size, 0, none⟩ 1 1 [.int .i64 x] rfl rfl (Law.new_one _ _ _) (Law.one_int _ _) (by unfold maxLen; omega) (by omega) (by simp; omega) ?_)
    intro v' w2 hown' hgrow _
    have B2 := Lib.hid ((HB.out.alloc s1 (.cells #[.int .i64 x] 3)).grown hgrow (by simp; omega) (fun k hk => (HW.out.lt k hk).1))
    obtain ⟨g', cap', rfl⟩ := ownsRow_succ hown'
    have HR : Hid (w2.ownsRow w.heap.size 3 1 (.slice (some ⟨g', 0, none⟩) (zs ++ [x]).length cap') (zs ++ [x]).length ((zs ++ [x]).map (.int .i64))) := by
      show World.ownsRow _ _ _ _ _ _ _
      simpa using hown'
    have H9 : Hid ((zs ++ [x]).length ≤ cap') := by
      show _ ≤ _
      obtain ⟨A9, c9, e9, h9⟩ := Law.own_shape HR.out
      injection e9 with _ _ e9
      rw [e9]
      exact h9
    clear hown' hgrow HW HB
    go_wp2_with fail
    go_ret2
    exact .inl ⟨HLT.out, some ⟨g', 0, none⟩, _, by simp, H9.out, Law.Seq.own HR.out, B2.out⟩
  · have d1 : decide ((zs.length : Int) < room) = false := by simpa using hlt
    have HLT := Lib.hid hlt
    clear hlt
    go_enter Try.func12, Try.ntmps12
    go_wp2_with fail
    go_ret2
    exact .inr ⟨by have := HLT.out; omega, rfl, rfl⟩
end Ring
end Go.Proofs.Ytcpaenoennlboaa
