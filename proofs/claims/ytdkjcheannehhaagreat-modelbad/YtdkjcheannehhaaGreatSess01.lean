/-
  What the small calls of layer 6 come to: within, Right, Late; of and beyond (functions that tell a session), where, copied.
-/
import Derived.Test.YtdkjcheannehhaaGreatSessC
namespace Go.Proofs.YtdkjcheannehhaaGreat
open Go.RowKit
namespace Sess
open Go.Law
set_option maxHeartbeats 400000 in
theorem within (n a b : Int) (r : Bool) (hr : (decide (a ≤ n) && decide (n ≤ b)) = r) (w : World) :
    Calls Tryz.prog 104 #[.int .i64 n, .int .i64 a, .int .i64 b] w fun e w' => e = .returned (.bool r) ∧ w = w' := by
  subst hr
  cases h1 : decide (a ≤ n) <;>
  · go_enter Tryz.func104, Tryz.ntmps104
    go_wp2
    go_ret
    exact ⟨by simp, rfl⟩

set_option maxHeartbeats 400000 in
theorem of_ (k : Int) (w : World) :
    Calls Tryz.prog 134 #[.int .i64 k] w fun e w' => e = .returned (.func (.func 148) #[] #[.pointer (some ⟨w.heap.size, 0, none⟩)]) ∧ w.alloc (.cells #[.int .i64 k] 3) = w' := by
  go_enter Tryz.func134, Tryz.ntmps134
  go_wp2
  go_ret
  exact ⟨rfl, rfl⟩

set_option maxHeartbeats 400000 in
theorem beyond (k : Int) (w : World) :
    Calls Tryz.prog 136 #[.int .i64 k] w fun e w' => e = .returned (.func (.func 151) #[] #[.pointer (some ⟨w.heap.size, 0, none⟩)]) ∧ w.alloc (.cells #[.int .i64 k] 3) = w' := by
  go_enter Tryz.func136, Tryz.ntmps136
  go_wp2
  go_ret
  exact ⟨rfl, rfl⟩

set_option maxHeartbeats 800000 in
theorem of1 (q : Sn) (k : Int) (p : Nat) (w : World) (hp : w.cell? ⟨p, 0, none⟩ = some (.int .i64 k)) :
    Calls Tryz.prog 148 #[V q, .pointer (some ⟨p, 0, none⟩)] w fun e w' => e = .returned (.bool (q.1 == k)) ∧ Below w.heap.size w w' := by
  have lp := World.block_lt_of_cell? w ⟨p, 0, none⟩ hp
  obtain ⟨a, b, c, d⟩ := q
  unfold V
  go_enter Tryz.func148, Tryz.ntmps148
  go_wp2
  go_ret
  exact ⟨rfl, (Below.refl _ _).alloc (Nat.le_refl _) _⟩

set_option maxHeartbeats 800000 in
theorem beyond1 (q : Sn) (k : Int) (p : Nat) (w : World) (hp : w.cell? ⟨p, 0, none⟩ = some (.int .i64 k)) :
    Calls Tryz.prog 151 #[V q, .pointer (some ⟨p, 0, none⟩)] w fun e w' => e = .returned (.bool (decide (k < q.1))) ∧ Below w.heap.size w w' := by
  have lp := World.block_lt_of_cell? w ⟨p, 0, none⟩ hp
  obtain ⟨a, b, c, d⟩ := q
  unfold V
  go_enter Tryz.func151, Tryz.ntmps151
  go_wp2
  go_ret
  exact ⟨rfl, (Below.refl _ _).alloc (Nat.le_refl _) _⟩

set_option maxRecDepth 100000 in
set_option maxHeartbeats 1600000 in
theorem where_ (f : FuncId) (caps : Array Value) (eg : ∀ args w, (callFunc f args).run Tryz.prog w = .ok (.enter f args) w) (tst : Sn → Bool) (zs : List Sn) (A : Option Addr) (c : Nat) (w : World) (hs : Seq w 0 w.heap.size A (flatS zs)) (hl : zs.length ≤ maxLen)
    (hf : ∀ q w', Below w.heap.size w w' → Calls Tryz.prog f (#[V q] ++ caps) w' fun e w'' => e = .returned (.bool (tst q)) ∧ Below w'.heap.size w' w'') :
    Calls Tryz.prog 133 #[.slice A zs.length c, .func (.func f) #[] caps] w fun e w' => e = .returned (.int .i64 ((zs.findIdx tst : Nat) : Int)) ∧ Below w.heap.size w w' := by
  have HS := Lib.hid hs
  have HF := Lib.hid hf
  unfold maxLen at hl
  clear hs hf
  go_enter Tryz.func133, Tryz.ntmps133
  go_wp2_with fail
  go_loopw [9] (fun i wr => ∃ j : Nat, j ≤ zs.length ∧ i = .int .i64 j ∧ (∀ q ∈ zs.take j, tst q = false) ∧ Below w.heap.size w wr) (fun i _ => zs.length - (intOf i).toNat)
  case atStart => exact ⟨0, Nat.zero_le _, rfl, by simp, Below.refl _ _⟩
  case round =>
    obtain ⟨j, hj, rfl, hno, hB⟩ := hrel
    have HB := Lib.hid hB
    have sb := hB.size
    have HNo := Lib.hid hno
    clear hB hno
    by_cases hlt : j < zs.length
    · obtain ⟨b, off, rfl, _, hb, q0, q1, q2, q3⟩ := (HS.out.below HB.out).ses hlt
      have HT := Lib.hid (List.take_succ_eq_append_getElem hlt)
      have HG : Hid (zs[j]? = some zs[j]) := List.getElem?_eq_getElem hlt
      have HFI : Hid (tst zs[j] = true → zs.findIdx tst = j) := fun h => by
        rw [List.findIdx_eq hlt]
        refine ⟨h, fun i hi => HNo.out _ ?_⟩
        exact List.mem_take_iff_getElem.2 ⟨i, by omega, by simp⟩
      generalize hq : zs[j] = q at *
      obtain ⟨x0, x1, x2, x3⟩ := q
      simp only at q0 q1 q2 q3
      have lb : b < wr.heap.size := by omega
      go_wp2_with fail
      refine (HF.out (x0, x1, x2, x3) _ (HB.out.alloc sb _)).mono ?_
      rintro e w2 ⟨rfl, b2⟩
      have B2 := Lib.hid ((HB.out.alloc sb _).trans (b2.mono (by simp; omega)))
      clear b2
      cases hx : tst (x0, x1, x2, x3) with
      | true =>
        rw [hx] at HFI
        have HI := Lib.hid (HFI.out rfl)
        clear HFI
        go_wp2_with fail
        go_ret
        exact ⟨by rw [HI.out]; rfl, B2.out⟩
      | false =>
        clear HFI
        go_wp2_with fail
        go_roundw
        case rel => exact ⟨j + 1, by omega, by go_num, fun q hq' => by rw [HT.out] at hq'; rcases List.mem_append.1 hq' with h | h; exact HNo.out q h; simp at h; subst h; exact hx, B2.out⟩
        case measure => simp [intOf]; omega
    · have HI : Hid (zs.findIdx tst = zs.length) := by
        refine List.findIdx_eq_length.2 fun q hq => HNo.out q ?_
        rw [List.take_of_length_le (by omega)]; exact hq
      go_wp2_with fail
      go_ret
      exact ⟨by rw [HI.out]; rfl, HB.out⟩

theorem whereOf (k : Int) (p : Nat) (zs : List Sn) (A : Option Addr) (c : Nat) (w : World) (hp : w.cell? ⟨p, 0, none⟩ = some (.int .i64 k)) (hs : Seq w 0 w.heap.size A (flatS zs)) (hl : zs.length ≤ maxLen) :
    Calls Tryz.prog 133 #[.slice A zs.length c, .func (.func 148) #[] #[.pointer (some ⟨p, 0, none⟩)]] w fun e w' => e = .returned (.int .i64 ((atS k zs : Nat) : Int)) ∧ Below w.heap.size w w' :=
  where_ 148 _ (enters_of Tryz.func148 (by kernel_rfl) rfl) (fun q => q.1 == k) zs A c w hs hl fun q w' hb => of1 q k p w' ((hb.cell (p := ⟨p, 0, none⟩) (World.block_lt_of_cell? w ⟨p, 0, none⟩ hp)).trans hp)
theorem wherePast (k : Int) (p : Nat) (zs : List Sn) (A : Option Addr) (c : Nat) (w : World) (hp : w.cell? ⟨p, 0, none⟩ = some (.int .i64 k)) (hs : Seq w 0 w.heap.size A (flatS zs)) (hl : zs.length ≤ maxLen) :
    Calls Tryz.prog 133 #[.slice A zs.length c, .func (.func 151) #[] #[.pointer (some ⟨p, 0, none⟩)]] w fun e w' => e = .returned (.int .i64 ((pastS k zs : Nat) : Int)) ∧ Below w.heap.size w w' :=
  where_ 151 _ (enters_of Tryz.func151 (by kernel_rfl) rfl) (fun q => decide (k < q.1)) zs A c w hs hl fun q w' hb => beyond1 q k p w' ((hb.cell (p := ⟨p, 0, none⟩) (World.block_lt_of_cell? w ⟨p, 0, none⟩ hp)).trans hp)

set_option maxHeartbeats 800000 in
theorem right (a b c : Int) (w : World) :
    Calls Tryz.prog 82 #[.int .i64 a, .int .i64 b, .int .i64 c] w fun e w' => e = .returned (.bool (decide (0 ≤ a) && decide (a ≤ 255) && (decide (1 ≤ b) && decide (b ≤ 9)) && (decide (0 ≤ c) && decide (c ≤ 9)))) ∧ w = w' := by
  cases h1 : decide (0 ≤ a) && decide (a ≤ 255) with
  | false =>
    go_enter Tryz.func82, Tryz.ntmps82
    go_wp2_with fail
    refine (within a 0 255 false h1 _).mono ?_
    rintro e w1 ⟨rfl, rfl⟩
    go_wp2_with fail
    go_ret
    exact ⟨rfl, rfl⟩
  | true =>
    cases h2 : decide (1 ≤ b) && decide (b ≤ 9) with
    | false =>
      go_enter Tryz.func82, Tryz.ntmps82
      go_wp2_with fail
      refine (within a 0 255 true h1 _).mono ?_
      rintro e w1 ⟨rfl, rfl⟩
      go_wp2_with fail
      refine (within b 1 9 false h2 _).mono ?_
      rintro e w1 ⟨rfl, rfl⟩
      go_wp2_with fail
      go_ret
      exact ⟨rfl, rfl⟩
    | true =>
      go_enter Tryz.func82, Tryz.ntmps82
      go_wp2_with fail
      refine (within a 0 255 true h1 _).mono ?_
      rintro e w1 ⟨rfl, rfl⟩
      go_wp2_with fail
      refine (within b 1 9 true h2 _).mono ?_
      rintro e w1 ⟨rfl, rfl⟩
      go_wp2_with fail
      refine (within c 0 9 _ rfl _).mono ?_
      rintro e w1 ⟨rfl, rfl⟩
      go_wp2_with fail
      go_ret
      exact ⟨rfl, rfl⟩

set_option maxRecDepth 100000 in
set_option maxHeartbeats 1600000 in
theorem copied (zs : List Sn) (A : Option Addr) (c : Nat) (w : World) (hs : Seq w 0 w.heap.size A (flatS zs)) (hl : zs.length ≤ 1000) :
    Calls Tryz.prog 132 #[.slice A zs.length c] w fun e w' => e = .returned (.slice (some ⟨w.heap.size, 0, none⟩) zs.length zs.length) ∧ Is w' w.heap.size 143 (flatS zs).toArray ∧ Below w.heap.size w w' := by
  obtain ⟨i0, hE⟩ := elem
  have HE := Lib.hid hE
  have HS := Lib.hid hs
  clear hE hs
  go_enter Tryz.func132, Tryz.ntmps132
  go_wp2_with (at_make; refine wpList_make_full _ rfl _ _ 110 rfl w.heap.size 143 i0 (.agg #[.int .i64 0, .int .i64 0, .int .i64 0, .int .u64 0]) 4 HE.out.ut HE.out.info HE.out.zero HE.out.sz .i64 .i64 (zs.length : Int) (zs.length : Int) zs.length rfl rfl rfl rfl (by rw [HE.out.by_]; omega) (by unfold maxLen; omega) (Nat.le_refl _) ?_)
  intro w1 hown hgrow
  obtain ⟨cur, hcur, hsz⟩ : ∃ cur : Array Value, Is w1 w.heap.size 143 cur ∧ cur.size = zs.length * 4 := by
    rcases hown.2 with ⟨h0, _⟩ | ⟨g, cap, cur, h0, _, hh, _, _, hs, _⟩
    · simp at h0
    · injection h0 with h1 h2 h3
      injection h1 with h1
      injection h1 with h1
      subst h1 h3
      exact ⟨cur, hh, hs⟩
  have B1 : Below w.heap.size w w1 := (Below.refl _ w).grown hgrow (Nat.le_refl _) (by simp)
  have HC : Hid (Is w1 w.heap.size 143 cur.toList.toArray) := hcur
  have HZ : Hid (cur.toList.length = zs.length * 4) := by show _ = _; rw [Array.length_toList, hsz]
  have HB := Lib.hid B1
  have HS1 := Lib.hid (HS.out.below B1)
  have HI : Hid ((Tryz.prog.info? 143).map (·.size) = some 4) := by show _ = _; rw [HE.out.info, Option.map_some, HE.out.sz]
  clear hown hgrow hcur hsz B1 HS
  go_wp2_with (refine Law.wpList_copy_any _ rfl (.tmp 7) (.tmp 8) (size := 4) (cs := flatS zs) rfl rfl rfl HE.out.ut HI.out HC.out (by rw [flatS_length]; exact congrArg (· * 4) (Nat.min_self _).symm) HS1.out (by rw [flatS_length, HZ.out]; omega) (flatS_one _) ?_)
  intro w2 hi2 ht2
  have B2 := Lib.hid (ht2.below HB.out (Nat.le_refl _))
  rw [Law.splice_all _ _ (by rw [HZ.out, flatS_length])] at hi2
  have H2 := Lib.hid hi2
  clear hi2 ht2
  go_wp2_with fail
  go_ret
  exact ⟨rfl, H2.out, B2.out⟩
end Sess
end Go.Proofs.YtdkjcheannehhaaGreat
