/-
  OmapStops: whatever the acts and the number, the statement's function returns true, and the arguments read as before. No condition.
-/
import Derived.Test.YtekkddejgkmofaaOmap02
namespace Go.Proofs.Ytekkddejgkmofaa.omapStops
open Go.ChangeShapes Go.WideShapes Go.ChangeAt Go.RowKit
open Omap

set_option maxHeartbeats 400000 in
/-- the function that is handed in: it counts -/
theorem one (k : ByteArray) (v : Int) (m stop B p : Nat) (W : World) (hm : m ≤ 1000) (hst : stop ≤ 255) (h : Law.Is W B 3 #[.int .i64 (m : Int)]) (hp : Law.Is W p 5 #[.int .u8 (stop : Int)]) :
    Calls Try.prog 17 #[.string k, .int .i64 v, .pointer (some ⟨B, 0, none⟩), .pointer (some ⟨p, 0, none⟩)] W fun e W' => e = .returned (.bool (decide (m + 1 < stop))) ∧ W' = W.setCell ⟨B, 0, none⟩ (.int .i64 ((m : Int) + 1)) := by
  have c0 : W.cell? ⟨B, 0, none⟩ = some (.int .i64 (m : Int)) := h.cell' rfl
  have f0 := h.frozen 0
  have l0 := h.lt
  have c1 : W.cell? ⟨p, 0, none⟩ = some (.int .u8 (stop : Int)) := hp.cell' rfl
  have l1 := hp.lt
  have hne : p ≠ B := hp.type_ne h (by decide)
  clear h hp
  go_enter Try.func17, Try.ntmps17
  go_wp2_with fail
  go_ret
  exact ⟨ret_bool (by rw [Bool.eq_iff_iff]; simp; omega), rfl⟩

/-- how many come to it -/
theorem come {α : Type} (stop : Nat) : ∀ (c : Nat) (xs : List α), c < max stop 1 → (Law.runW (fun m => decide (m < stop)) c xs).1.length = min xs.length (max stop 1 - c)
  | c, [], _ => by simp [Law.runW]
  | c, x :: r, h => by
    unfold Law.runW
    by_cases hs : c + 1 < stop
    · rw [if_pos (by simpa using hs)]
      simp only [List.length_cons]
      rw [come stop (c + 1) r (by omega)]
      omega
    · rw [if_neg (by simpa using hs)]
      simp
      omega

set_option maxRecDepth 100000 in
set_option maxHeartbeats 4000000 in
theorem walk (l : List (Bool × ByteArray × Int)) (A : Option Addr) (c stop : Nat) (hst : stop ≤ 255) (w : World) (hs : Law.Acts w w.heap.size A l) (hl : l.length ≤ maxLen) (hz : ∀ q ∈ l, q.2.1.size ≤ maxLen) :
    Calls Try.prog 4 #[.slice A l.length c, .int .u8 (stop : Int)] w fun e w' => e = .returned (.bool true) ∧ Below w.heap.size w w' := by
  have HS := Lib.hid hs
  have HL := Lib.hid hl
  have HZ := Lib.hid hz
  clear hs hl hz
  go_enter Try.func4, Try.ntmps4
  go_wp2_with fail
  have B0 := (Below.refl w.heap.size w).alloc (Nat.le_refl _) (.cells #[.int .u8 (stop : Int)] 5)
  have I0 : Law.Is (w.alloc (.cells #[.int .u8 (stop : Int)] 5)) w.heap.size 5 #[.int .u8 (stop : Int)] := Law.Is.new _ _ _ rfl
  generalize w.alloc (.cells #[.int .u8 (stop : Int)] 5) = w0 at *
  refine (awake _).mono ?_
  rintro e w1 ⟨rfl, b1⟩
  have B1 := B0.trans (b1.mono B0.size)
  have I1 := I0.below b1 I0.lt
  have HB := Lib.hid B1
  have HI := Lib.hid I1
  clear B0 I0 b1 B1 I1
  go_wp2_with fail
  refine (long l A c _ ((HS.out.below HB.out).wide HB.out.size) HL.out HZ.out).mono ?_
  rintro e w' ⟨b, rfl, hb, rfl⟩
  cases b with
  | true =>
    go_wp2_with fail
    refine (awake _).mono ?_
    rintro e w2 ⟨rfl, b2⟩
    have B2 := Lib.hid (HB.out.trans (b2.mono HB.out.size))
    clear b2
    go_wp2_with fail
    go_ret
    exact ⟨rfl, B2.out⟩
  | false =>
    have hl := hb rfl
    clear hb
    have sw := HB.out.size
    have hsw := HI.out.lt
    have V0 := Lib.hid (Var.new w1 rfl)
    have H2 : Hid (Law.Is (w1.alloc (.cells #[.pointer none] 27)) w.heap.size 5 #[.int .u8 (stop : Int)] ∧ Below w.heap.size w (w1.alloc (.cells #[.pointer none] 27))) := ⟨HI.out.alloc _, HB.out.alloc sw _⟩
    go_wp2_with fail
    generalize w1.alloc (.cells #[.pointer none] 27) = w2 at *
    go_loopw [6] (fun i wr => ∃ k : Nat, k ≤ l.length ∧ i = .int .i64 k ∧ ∃ xs, xs.length ≤ k ∧ Var wr w1.heap.size xs ∧ Law.Is wr w.heap.size 5 #[.int .u8 (stop : Int)] ∧ Below w.heap.size w wr) (fun i _ => l.length - (intOf i).toNat)
    case atStart => exact ⟨0, Nat.zero_le _, rfl, [], Nat.le_refl _, V0.out, H2.out⟩
    case round =>
      obtain ⟨k, hk, rfl, xs, hx, hV, hI, hB⟩ := hrel
      clear V0 H2 HI
      have lV := hV.lt
      obtain ⟨p, hi, ht, hr⟩ := hV
      have c0 : wr.cell? ⟨w1.heap.size, 0, none⟩ = some (.pointer p) := hi.cell' rfl
      have HT := Lib.hid ht
      have HR := Lib.hid hr
      have HV := Lib.hid hi
      have H8 := Lib.hid hI
      have HB' := Lib.hid hB
      clear ht hr hi hI hB
      by_cases hlt : k < l.length
      · obtain ⟨b, off, rfl, hb, _, q1, q2⟩ := (HS.out.below HB'.out).at hlt
        generalize l[k].2.1 = key at *
        generalize l[k].2.2 = val at *
        go_wp2_with fail
        go_still_tail 11, (by kernel_rfl)
        change wpList _ _ _ _ _ wr.drew
        have HT' : Hid (OmapS.At wr.drew wr.drew.heap.size p xs) := HT.out.drewN 1
        have HV' : Hid (Law.Is wr.drew w1.heap.size 27 #[.pointer p]) := HV.out.drewN 1
        have H8' : Hid (Law.Is wr.drew w.heap.size 5 #[.int .u8 (stop : Int)]) := H8.out.drewN 1
        have HB2 : Hid (Below w.heap.size w wr.drew) := Law.below_drewN HB'.out 1
        clear HT HV H8 HB' c0 q1 q2 lV
        generalize wr.drew = wd at *
        go_wp2_with fail
        refine (OmapS.withM key val HT'.out (Nat.le_refl _) HR.out (by omega)).mono ?_
        rintro e w3 ⟨p3, rfl, t3, b3⟩
        have i3 := HV'.out.below b3 HV'.out.lt
        have c3 : w3.cell? ⟨w1.heap.size, 0, none⟩ = some (.pointer p) := i3.cell' rfl
        have f3 := i3.frozen 0
        have l3 := i3.lt
        have H3 : Hid (Var (w3.setCell ⟨w1.heap.size, 0, none⟩ (.pointer p3)) w1.heap.size (Law.putK OmapS.lt key val xs) ∧ Law.Is (w3.setCell ⟨w1.heap.size, 0, none⟩ (.pointer p3)) w.heap.size 5 #[.int .u8 (stop : Int)] ∧ Below w.heap.size w (w3.setCell ⟨w1.heap.size, 0, none⟩ (.pointer p3))) :=
          ⟨Var.of i3 t3 (Law.putK_rises OmapS.lt OmapS.tri HR.out), (H8'.out.below b3 H8'.out.lt).far (p := ⟨w1.heap.size, 0, none⟩) (Nat.ne_of_lt hsw) _, (HB2.out.trans (b3.mono HB2.out.size)).setCell (p := ⟨w1.heap.size, 0, none⟩) sw _⟩
        have hp := Law.putK_length OmapS.lt key val xs
        clear i3 t3 b3 HT' HV' H8' HB2
        go_wp2_with fail
        go_roundw
        case rel => exact ⟨k + 1, by omega, by go_num, Law.putK OmapS.lt key val xs, by omega, H3.out⟩
        case measure => simp [intOf]; omega
      · have hkl : k = l.length := by omega
        have V9 : Hid (Var wr w1.heap.size xs) := ⟨p, HV.out, HT.out, HR.out⟩
        have B9 := HB'.out.size
        have N0 : Law.Is (wr.alloc (.cells #[.int .i64 0] 3)) wr.heap.size 3 #[.int .i64 ((0 : Nat) : Int)] := Law.Is.new _ _ _ rfl
        have K0 : Below wr.heap.size wr (wr.alloc (.cells #[.int .i64 0] 3)) := (Below.refl _ wr).alloc (Nat.le_refl _) _
        go_wp2_with fail
        generalize wr.alloc (.cells #[.int .i64 0] 3) = wn at *
        refine (OmapS.all _ p).mono ?_
        rintro e w4 ⟨rfl, rfl⟩
        have K4 : Below wr.heap.size wr (wn.alloc (.cells #[.pointer p] 27)) := K0.alloc K0.size _
        have N4 := N0.alloc (.cells #[.pointer p] 27)
        have c4 : (wn.alloc (.cells #[.pointer p] 27)).cell? ⟨wn.heap.size, 0, none⟩ = some (.pointer p) := (Law.Is.new wn 27 #[.pointer p] rfl).cell' rfl
        have HE := Lib.hid (OmapS.each 17 #[.pointer (some ⟨wr.heap.size, 0, none⟩), .pointer (some ⟨w.heap.size, 0, none⟩)] (enters_of Try.func17 (by kernel_rfl) rfl)
          (fun pre W => Law.Is W wr.heap.size 3 #[.int .i64 (pre.length : Int)] ∧ Law.Is W w.heap.size 5 #[.int .u8 (stop : Int)] ∧ Below wr.heap.size wr W) (fun m => decide (m < stop)) wr.heap.size xs
          (fun pre key val W hJ hpre => (one key val pre.length stop wr.heap.size w.heap.size W (by have := hpre.length_le; simp at this; omega) hst hJ.1 hJ.2.1).mono
            fun _ _ ⟨he, hw⟩ => by subst hw; exact ⟨he, ⟨hJ.1.set 0 _ (by simp), hJ.2.1.far (p := ⟨wr.heap.size, 0, none⟩) (hJ.2.1.type_ne hJ.1 (by decide)) _, hJ.2.2.setCell (p := ⟨wr.heap.size, 0, none⟩) (Nat.le_refl _) _⟩, Law.Keeps.store hJ.1 (by decide) _⟩)
          (fun pre W n hJ => ⟨hJ.1.drewN n, hJ.2.1.drewN n, Law.below_drewN hJ.2.2 n⟩) (wn.alloc (.cells #[.pointer p] 27)) wn.heap.size p c4 (HT.out.under K4) ⟨N4, H8.out.below K4 H8.out.lt, K4⟩)
        clear K4 N4 c4 N0 K0
        go_wp2_with fail
        refine HE.out.mono ?_
        rintro e w5 ⟨⟨ve, rfl⟩, ⟨j1, j2, B5⟩, _⟩
        rw [come stop 0 xs (by omega)] at j1
        have n5 : w5.cell? ⟨wr.heap.size, 0, none⟩ = some (.int .i64 ((min xs.length (max stop 1 - 0) : Nat) : Int)) := j1.cell' rfl
        have s5 : w5.cell? ⟨w.heap.size, 0, none⟩ = some (.int .u8 (stop : Int)) := j2.cell' rfl
        have m5 : w5.cell? ⟨w1.heap.size, 0, none⟩ = some (.pointer p) := (HV.out.below B5 HV.out.lt).cell' rfl
        have l5 := B5.size
        have T5 := Lib.hid ((HT.out.under B5).wide B5.size)
        have HB5 := Lib.hid (HB'.out.trans (B5.mono B9))
        have HM : Hid (((min xs.length (max stop 1 - 0) : Nat) : Int) = if (if (stop : Int) < 1 then 1 else (stop : Int)) < (xs.length : Int) then (if (stop : Int) < 1 then 1 else (stop : Int)) else (xs.length : Int)) := by
          show _ = _
          split <;> split <;> omega
        generalize (min xs.length (max stop 1 - 0) : Nat) = r at *
        clear B5 j1 j2 HE V9 HV HT H8 HB' HR HS
        have hxl : xs.length ≤ 1000 := by omega
        have l6 : wr.heap.size < w5.heap.size := World.block_lt_of_cell? w5 _ n5
        have l7 : w1.heap.size < w5.heap.size := World.block_lt_of_cell? w5 _ m5
        have l8 : w.heap.size < w5.heap.size := World.block_lt_of_cell? w5 _ s5
        by_cases hs1 : stop = 0
        · subst hs1
          by_cases hs2 : (1 : Int) < (xs.length : Int)
          · go_wp2_with fail
            go_region_held3 (fun w' => w'.cell? ⟨wr.heap.size, 0, none⟩ = some (.int .i64 (r : Int)) ∧ w'.cell? ⟨w1.heap.size, 0, none⟩ = some (.pointer p) ∧ w'.cell? ⟨w.heap.size, 0, none⟩ = some (.int .u8 ((0 : Nat) : Int))) (go_keep) (first
              | (go_at_call 18; refine (OmapS.len (T5.out.drewN 1) (Nat.le_refl _)).mono ?_; rintro e w6 ⟨rfl, rfl⟩))
            all_goals
              go_wp2_with fail
              go_ret
              exact ⟨ret_bool (by have := HM.out; simp at this ⊢; omega), (HB5.out.drew.alloc (by have := HB5.out.size; simpa using this) _)⟩
          · have d2 : decide ((1 : Int) < (xs.length : Int)) = false := by simpa using hs2
            have d3 : (xs.length : Int) ≤ 1 := by omega
            clear hs2
            go_wp2_with fail
            go_region_held3 (fun w' => w'.cell? ⟨wr.heap.size, 0, none⟩ = some (.int .i64 (r : Int)) ∧ w'.cell? ⟨w1.heap.size, 0, none⟩ = some (.pointer p) ∧ w'.cell? ⟨w.heap.size, 0, none⟩ = some (.int .u8 ((0 : Nat) : Int))) (go_keep) (first
              | (go_at_call 18; refine (OmapS.len (T5.out.drewN 1) (Nat.le_refl _)).mono ?_; rintro e w6 ⟨rfl, rfl⟩))
            all_goals
              go_wp2_with fail
              go_ret
              exact ⟨ret_bool (by have := HM.out; simp at this ⊢; omega), (HB5.out.drew.alloc (by have := HB5.out.size; simpa using this) _)⟩
        · have d1 : decide ((stop : Int) < 1) = false := by simp; omega
          have d0 : (1 : Int) ≤ (stop : Int) := by omega
          have hw : IntKind.i64.wrap (stop : Int) = (stop : Int) := IntWalk.i64_in _ (by omega)
          by_cases hs2 : (stop : Int) < (xs.length : Int)
          · go_wp2_with fail
            go_region_held3 (fun w' => w'.cell? ⟨wr.heap.size, 0, none⟩ = some (.int .i64 (r : Int)) ∧ w'.cell? ⟨w1.heap.size, 0, none⟩ = some (.pointer p) ∧ w'.cell? ⟨w.heap.size, 0, none⟩ = some (.int .u8 (stop : Int))) (go_keep) (first
              | (go_at_call 18; refine (OmapS.len (T5.out.drewN 1) (Nat.le_refl _)).mono ?_; rintro e w6 ⟨rfl, rfl⟩))
            all_goals
              go_wp2_with fail
              go_ret
              exact ⟨ret_bool (by have := HM.out; simp at this ⊢; omega), (HB5.out.drew.alloc (by have := HB5.out.size; simpa using this) _)⟩
          · have d2 : decide ((stop : Int) < (xs.length : Int)) = false := by simpa using hs2
            have d3 : (xs.length : Int) ≤ (stop : Int) := by omega
            clear hs2
            go_wp2_with fail
            go_region_held3 (fun w' => w'.cell? ⟨wr.heap.size, 0, none⟩ = some (.int .i64 (r : Int)) ∧ w'.cell? ⟨w1.heap.size, 0, none⟩ = some (.pointer p) ∧ w'.cell? ⟨w.heap.size, 0, none⟩ = some (.int .u8 (stop : Int))) (go_keep) (first
              | (go_at_call 18; refine (OmapS.len (T5.out.drewN 1) (Nat.le_refl _)).mono ?_; rintro e w6 ⟨rfl, rfl⟩))
            all_goals
              go_wp2_with fail
              go_ret
              exact ⟨ret_bool (by have := HM.out; simp at this ⊢; omega), (HB5.out.drew.alloc (by have := HB5.out.size; simpa using this) _)⟩

theorem walk0 (l : List (Bool × ByteArray × Int)) (A : Option Addr) (c : Nat) (stop : Int) (hn : (Lit.int .u8 stop).wf = true) (w : World) (hs : Law.Acts w w.heap.size A l) (hl : l.length ≤ maxLen) (hz : ∀ q ∈ l, q.2.1.size ≤ maxLen) :
    Calls Try.prog 4 #[.slice A l.length c, .int .u8 stop] w fun e w' => e = .returned (.bool true) ∧ Below w.heap.size w w' := by
  have h1 := bounds_u8 hn
  obtain ⟨k, rfl⟩ := Int.eq_ofNat_of_zero_le h1.1
  exact walk l A c k (by omega) w hs hl hz

set_option maxRecDepth 100000 in
theorem lifted (os : Os) (started : os.Started) (H : Type) (enc : TypeId × Value → H) :
    ReturnsInHanded {} Try.checked os 4 .any (Rows.omapStopsSpec.pre6 enc Try.prog Try.f4 Rows.omapStopsRow.domain false) (Rows.omapStopsSpec.post enc Try.prog Try.f4 false true false false) := by
  refine returnsInHanded_of_change (C := Try.checked) own started (by kernel_rfl) Try.func4
    (ChangeSpec.witness6 (enc := enc) (C := Try.checked) false ⟨#[], #[.slice none 0 0, .int .u8 0], []⟩ 8 (by kernel_rfl) (by kernel_rfl) (by kernel_rfl) (by kernel_rfl)) ?_
  intro W base args ds gs before hval0 hW hcnd _
  have hval : ∀ (j : Nat) t v, Try.f4.params[j]? = some t → args[j]? = some v → Value.okWide Try.prog W .any base t v := hval0
  have hW' := hW
  obtain ⟨p, q, hA0, hV, rfl, hfz, hnd⟩ := hW
  have hA : DataW.TrodAll enc Try.prog W 0 (fun _ => true) true Try.f4.params.toList args.toList ds p := hA0
  rw [Try.params4] at hA hval
  obtain ⟨v0, vs0, d0, ds0, p0, q0, hargs, rfl, rfl, h0, r0⟩ := trodAll_cons hA
  obtain ⟨v1, vs1, d1, ds1, p1, q1, rfl, rfl, rfl, h1, r1⟩ := trodAll_cons r0
  obtain ⟨rfl, rfl, rfl⟩ := trodAll_nil r1
  obtain rfl : args = #[v0, v1] := by cases args; simp_all
  obtain ⟨A, c, l, rfl, hs, hl, hz⟩ := Law.open_acts Try.underlying22 Try.underlying30 (by kernel_rfl) rfl rfl rfl (by kernel_rfl) (by kernel_rfl) (by kernel_rfl) (by kernel_rfl) (by kernel_rfl) (by kernel_rfl) (hval 0 22 v0 rfl rfl) h0
  obtain ⟨a1, rfl, rfl, rfl, w1⟩ := open_int Try.underlying5 (hval 1 5 v1 rfl rfl) h1
  refine (walk0 l A c a1 w1 W hs hl hz).mono fun e W' ⟨he, bel⟩ => ?_
  subst he
  exact ⟨_, rfl, Law.post_law laidOut (by kernel_rfl) (by kernel_rfl) Try.underlying4 rfl (fun ds h => by match ds, h with | [_, _], _ => rfl) hW' bel⟩

theorem proved : Rows.OmapStopsSaid :=
  OpenClaim.holds_of_wide 4 Try.f4 rfl rfl rfl rfl rfl rfl rfl ⟨rfl, rfl, rfl, rfl, rfl⟩ rfl rfl rfl rfl rfl (by kernel_rfl) Try.func4 (by kernel_rfl)
    (of_decide_eq_true (by kernel_rfl)) (by unfold Func.isWrapper; rw [if_neg (by decide +kernel)]; exact ⟨rfl, rfl⟩)
    (fun os started H enc _ => lifted os started H enc)
#print axioms proved
end Go.Proofs.Ytekkddejgkmofaa.omapStops
