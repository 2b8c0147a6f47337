/-
  What Short, long and befalls (layer 10's statements) come to.
-/
import Derived.Test.YtombdjkfbjpipaaGreatJ23
namespace Go.Proofs.YtombdjkfbjpipaaGreat
open Go.RowKit Go.Shelf
attribute [local go_sem] Oper.semAt_some
namespace Mod
open Go.Law Feed Bk
theorem _root_.Go.Law.OpW.In.mono_ {q : OpW} {w w' : World} (h : q.In w) (hb : Below w.heap.size w w') : q.In w' := h.below hb
abbrev _root_.Go.Law.AcM.box (q : AcM) : Array Value := #[.int .u8 q.do_, .int .i64 q.who, .int .i64 q.op.kind, .string q.op.user, .int .i64 q.op.id, .int .i64 q.op.st, .int .i64 q.op.pr, .int .u64 q.op.ttl, .slice q.op.A q.op.us.length q.op.c, .int .u64 q.by_]
/-- an act's cells -/
structure MAt (w : World) (b o : Nat) (q : AcM) : Prop where
  c0 : w.cell? ⟨b, o, none⟩ = some (.int .u8 q.do_)
  c1 : w.cell? ⟨b, o + 1, none⟩ = some (.int .i64 q.who)
  c2 : w.cell? ⟨b, o + 2, none⟩ = some (.int .i64 q.op.kind)
  c3 : w.cell? ⟨b, o + 3, none⟩ = some (.string q.op.user)
  c4 : w.cell? ⟨b, o + 4, none⟩ = some (.int .i64 q.op.id)
  c5 : w.cell? ⟨b, o + 5, none⟩ = some (.int .i64 q.op.st)
  c6 : w.cell? ⟨b, o + 6, none⟩ = some (.int .i64 q.op.pr)
  c7 : w.cell? ⟨b, o + 7, none⟩ = some (.int .u64 q.op.ttl)
  c8 : w.cell? ⟨b, o + 8, none⟩ = some (.slice q.op.A q.op.us.length q.op.c)
  c9 : w.cell? ⟨b, o + 9, none⟩ = some (.int .u64 q.by_)
theorem _root_.Go.Law.Seq.acM {w : World} {lo B : Nat} {A : Option Addr} {l : List AcM} {i : Nat} (h : Seq w lo B A (l.flatMap cellsM)) (hi : i < l.length) : ∃ b off, A = some ⟨b, off, none⟩ ∧ lo ≤ b ∧ b < B ∧ MAt w b (off + i * 10) l[i] := by
  obtain ⟨b, off, hA, h1, h2, hc⟩ := Seq.row (cells := cellsM) (fun _ => rfl) (by decide : 0 < 10) h hi
  exact ⟨b, off, hA, h1, h2, by simpa using hc 0 _ rfl, hc 1 _ rfl, hc 2 _ rfl, hc 3 _ rfl, hc 4 _ rfl, hc 5 _ rfl, hc 6 _ rfl, hc 7 _ rfl, hc 8 _ rfl, hc 9 _ rfl⟩
theorem isM {w : World} {g : Nat} {t : TypeId} {q : AcM} (h : Is w g t q.box) : MAt w g 0 q := ⟨h.cell' rfl, h.cell' rfl, h.cell' rfl, h.cell' rfl, h.cell' rfl, h.cell' rfl, h.cell' rfl, h.cell' rfl, h.cell' rfl, h.cell' rfl⟩
/-- has an op few and short names? -/
def shortB (q : OpW) : Bool := decide (q.user.size ≤ 40) && (decide (q.us.length ≤ 20) && q.us.all fun u => decide (u.size ≤ 40))
set_option maxRecDepth 100000 in
set_option maxHeartbeats 2000000 in
theorem short (q : OpW) {w : World} (h : q.In w) {r : Bool} (hr : shortB q = r) : Calls Tryz.prog 27 #[q.v.val] w fun e w' => e = .returned (.bool r) ∧ Below w.heap.size w w' := by
  obtain ⟨kind, user, id, st, pr, ttl, A, c, us⟩ := q
  subst hr
  have bb := (Below.refl w.heap.size w).alloc (Nat.le_refl _) (.cells #[.int .i64 kind, .string user, .int .i64 id, .int .i64 st, .int .i64 pr, .int .u64 ttl, .slice A us.length c] 37)
  have IN1 := Lib.hid (h.below bb)
  have HX := Lib.hid (Is.new w 37 #[.int .i64 kind, .string user, .int .i64 id, .int .i64 st, .int .i64 pr, .int .u64 ttl, .slice A us.length c] rfl)
  have HB := Lib.hid bb
  have hl := h.len
  have hu := h.user
  simp only at hl hu
  unfold maxLen at hl hu
  clear h bb
  show Calls _ _ #[.agg #[.int .i64 kind, .string user, .int .i64 id, .int .i64 st, .int .i64 pr, .int .u64 ttl, .slice A us.length c]] _ _
  by_cases h0 : user.size ≤ 40
  · have d0 : decide ((40 : Int) < (user.size : Int)) = false := by simp; omega
    by_cases h1 : us.length ≤ 20
    · have d1 : decide ((20 : Int) < (us.length : Int)) = false := by simp; omega
      have HE : Hid (shortB ⟨kind, user, id, st, pr, ttl, A, c, us⟩ = us.all fun u => decide (u.size ≤ 40)) := by show _ = _; unfold shortB; simp [h0, h1]
      rw [HE.out]
      go_enter Tryz.func27, Tryz.ntmps27
      go_wp2_with fail
      generalize (w.alloc (.cells #[.int .i64 kind, .string user, .int .i64 id, .int .i64 st, .int .i64 pr, .int .u64 ttl, .slice A us.length c] 37)) = w1 at *
      have HX1 := Lib.hid (HX.out.cell' (i := 6) rfl)
      have lx := HX.out.lt
      have c6 : w1.cell? ⟨w.heap.size, 6, none⟩ = some (.slice A us.length c) := HX1.out
      go_loop [3] (fun i => ∃ j : Nat, j ≤ us.length ∧ i = .int .i64 j ∧ (us.take j).all (fun u => decide (u.size ≤ 40)) = true) (fun i => us.length - (intOf i).toNat)
      case atStart => exact ⟨0, Nat.zero_le _, rfl, by simp⟩
      case round =>
        obtain ⟨j, hj, rfl, ha⟩ := hrel
        have HA := Lib.hid ha
        clear ha
        by_cases hlt : j < us.length
        · obtain ⟨b, off, rfl, _, hb, c0⟩ := IN1.out.us.str hlt
          have e1 : decide ((j : Int) < (us.length : Int)) = true := by simp; omega
          have HT : Hid ((us.take (j + 1)).all (fun u => decide (u.size ≤ 40)) = ((us.take j).all (fun u => decide (u.size ≤ 40)) && decide (us[j].size ≤ 40))) := by show _ = _; rw [List.take_succ_eq_append_getElem hlt, List.all_append]; simp
          have HM := Lib.hid (List.getElem_mem hlt)
          have hz := IN1.out.size _ HM.out
          unfold maxLen at hz
          simp only at c0 hz hb
          generalize us[j] = u at *
          by_cases hu2 : u.size ≤ 40
          · have d2 : decide ((40 : Int) < (u.size : Int)) = false := by simp; omega
            go_wp2_with fail
            go_round
            case rel => exact ⟨j + 1, by omega, by go_num, by rw [HT.out, HA.out]; simpa using hu2⟩
            case measure => simp [intOf]; omega
          · have d2 : decide ((40 : Int) < (u.size : Int)) = true := by simp; omega
            have HE2 : Hid ((us.all fun u => decide (u.size ≤ 40)) = false) := by show _ = _; rw [List.all_eq_false]; exact ⟨u, HM.out, by simpa using hu2⟩
            go_wp2_with fail
            go_ret
            exact ⟨by rw [HE2.out]; rfl, HB.out⟩
        · have e1 : us.take j = us := List.take_of_length_le (by omega)
          have e2 : decide ((j : Int) < (us.length : Int)) = false := by simp; omega
          rw [e1] at HA
          go_wp2_with fail
          go_ret
          exact ⟨by rw [HA.out]; rfl, HB.out⟩
    · have d1 : decide ((20 : Int) < (us.length : Int)) = true := by simp; omega
      have HE : Hid (shortB ⟨kind, user, id, st, pr, ttl, A, c, us⟩ = false) := by show _ = _; unfold shortB; simp; omega
      rw [HE.out]
      go_enter Tryz.func27, Tryz.ntmps27
      go_wp2_with fail
      go_ret
      exact ⟨rfl, HB.out⟩
  · have d0 : decide ((40 : Int) < (user.size : Int)) = true := by simp; omega
    have HE : Hid (shortB ⟨kind, user, id, st, pr, ttl, A, c, us⟩ = false) := by show _ = _; unfold shortB; simp; omega
    rw [HE.out]
    go_enter Tryz.func27, Tryz.ntmps27
    go_wp2_with fail
    go_ret
    exact ⟨rfl, HB.out⟩
/-- is there more than is looked at? -/
def longM (l : List AcM) : Bool := decide (120 < l.length) || l.any fun q => !shortB q.op
theorem longM_no {l : List AcM} (h : longM l = false) : l.length ≤ 120 ∧ ∀ q ∈ l, shortB q.op = true := by
  unfold longM at h
  rw [Bool.or_eq_false_iff] at h
  refine ⟨by simpa using h.1, fun q hq => ?_⟩
  have := h.2
  rw [List.any_eq_false] at this
  simpa using this q hq
set_option maxRecDepth 100000 in
set_option maxHeartbeats 2000000 in
theorem long (l : List AcM) (A : Option Addr) (c : Nat) (w : World) (hs : Seq w 0 w.heap.size A (l.flatMap cellsM)) (hl : l.length ≤ maxLen) (hq : ∀ q ∈ l, q.op.In w) {r : Bool} (hr : longM l = r) :
    Calls Tryz.prog 12 #[.slice A l.length c] w fun e w' => e = .returned (.bool r) ∧ Below w.heap.size w w' := by
  subst hr
  have HS := Lib.hid hs
  have HQ := Lib.hid hq
  clear hs hq
  unfold maxLen at hl
  by_cases h0 : 120 < l.length
  · have d0 : decide ((120 : Int) < (l.length : Int)) = true := by simp; omega
    have HE : Hid (longM l = true) := by show _ = _; unfold longM; simp [h0]
    go_enter Tryz.func12, Tryz.ntmps12
    go_wp2_with fail
    go_ret
    exact ⟨by rw [HE.out]; rfl, Below.refl _ _⟩
  · have d0 : decide ((120 : Int) < (l.length : Int)) = false := by simp; omega
    have HE : Hid (longM l = l.any fun q => !shortB q.op) := by show _ = _; unfold longM; simp [h0]
    go_enter Tryz.func12, Tryz.ntmps12
    go_wp2_with fail
    go_loopw [3] (fun i wr => ∃ j : Nat, j ≤ l.length ∧ i = .int .i64 j ∧ (l.take j).any (fun q => !shortB q.op) = false ∧ Below w.heap.size w wr) (fun i _ => l.length - (intOf i).toNat)
    case atStart => exact ⟨0, Nat.zero_le _, rfl, by simp, Below.refl _ _⟩
    case round =>
      obtain ⟨j, hj, rfl, ha, hB⟩ := hrel
      have HA := Lib.hid ha
      have HB := Lib.hid hB
      have sz := hB.size
      clear ha hB
      by_cases hlt : j < l.length
      · obtain ⟨b, off, rfl, _, hb, c0, c1, c2, c3, c4, c5, c6, c7, c8, c9⟩ := (HS.out.below HB.out).acM hlt
        have e1 : decide ((j : Int) < (l.length : Int)) = true := by simp; omega
        have HT : Hid ((l.take (j + 1)).any (fun q => !shortB q.op) = ((l.take j).any (fun q => !shortB q.op) || !shortB l[j].op)) := by show _ = _; rw [List.take_succ_eq_append_getElem hlt, List.any_append]; simp
        have HM := Lib.hid (List.getElem_mem hlt)
        have HIN := Lib.hid ((HQ.out _ HM.out).mono_ HB.out)
        have lb := Nat.lt_of_lt_of_le hb sz
        generalize l[j] = q at *
        obtain ⟨dI, qw, ⟨kind, user, id, st, pr, ttl, Au, cu, us⟩, by_⟩ := q
        simp only at c0 c1 c2 c3 c4 c5 c6 c7 c8 c9
        cases hsh : shortB ⟨kind, user, id, st, pr, ttl, Au, cu, us⟩ with
        | false =>
          have HE2 : Hid (longM l = true) := by show _ = _; rw [HE.out, List.any_eq_true]; exact ⟨_, HM.out, by simp [hsh]⟩
          go_wp2_with fail
          refine (short ⟨kind, user, id, st, pr, ttl, Au, cu, us⟩ HIN.out hsh).mono ?_
          rintro e w2 ⟨rfl, b2⟩
          have HB2 := Lib.hid (HB.out.trans (b2.mono sz))
          clear b2
          go_wp2_with fail
          go_ret
          exact ⟨by rw [HE2.out]; rfl, HB2.out⟩
        | true =>
          go_wp2_with fail
          refine (short ⟨kind, user, id, st, pr, ttl, Au, cu, us⟩ HIN.out hsh).mono ?_
          rintro e w2 ⟨rfl, b2⟩
          have HB2 := Lib.hid (HB.out.trans (b2.mono sz))
          clear b2
          go_wp2_with fail
          go_roundw
          case rel => exact ⟨j + 1, by omega, by go_num, by rw [HT.out, HA.out]; simp [hsh], HB2.out⟩
          case measure => simp [intOf]; omega
      · have e1 : l.take j = l := List.take_of_length_le (by omega)
        have e2 : decide ((j : Int) < (l.length : Int)) = false := by simp; omega
        rw [e1] at HA
        go_wp2_with fail
        go_ret
        exact ⟨by rw [HE.out, HA.out]; rfl, HB.out⟩
end Mod
end Go.Proofs.YtombdjkfbjpipaaGreat
/-
  What the reference's name and Bad (layer 10) come to.
-/
namespace Go.Proofs.YtombdjkfbjpipaaGreat
open Go.RowKit Go.Shelf
attribute [local go_sem] Oper.semAt_some
namespace Mod
open Go.Law Feed Bk
set_option maxHeartbeats 1000000 in
theorem rname (u : ByteArray) (w : World) (hu : u.size ≤ maxLen) {r : Bool} (hr : nameB u = r) : Calls Tryz.prog 56 #[.string u] w fun e w' => e = .returned (.bool r) ∧ w = w' := by
  unfold maxLen at hu
  subst hr
  by_cases h0 : 0 < u.size
  · have d0 : decide ((0 : Int) < (u.size : Int)) = true := by simp; omega
    by_cases h1 : u.size < 17
    · have d1 : decide ((u.size : Int) < 17) = true := by simp; omega
      have HE : Hid (nameB u = true) := by show Hash.okLen u.size = true; unfold Hash.okLen; exact decide_eq_true (by omega)
      go_enter Tryz.func56, Tryz.ntmps56
      go_wp2_with fail
      go_ret
      exact ⟨by rw [HE.out]; rfl, rfl⟩
    · have d1 : decide ((u.size : Int) < 17) = false := by simp; omega
      have HE : Hid (nameB u = false) := by show Hash.okLen u.size = false; unfold Hash.okLen; exact decide_eq_false (by omega)
      go_enter Tryz.func56, Tryz.ntmps56
      go_wp2_with fail
      go_ret
      exact ⟨by rw [HE.out]; rfl, rfl⟩
  · have d0 : decide ((0 : Int) < (u.size : Int)) = false := decide_eq_false (by omega)
    have HE : Hid (nameB u = false) := by show Hash.okLen u.size = false; unfold Hash.okLen; exact decide_eq_false (by omega)
    go_enter Tryz.func56, Tryz.ntmps56
    go_wp2_with fail
    go_ret
    exact ⟨by rw [HE.out]; rfl, rfl⟩
set_option maxRecDepth 100000 in
set_option maxHeartbeats 1600000 in
theorem rbad1 (user : ByteArray) (id st pr ttl : Int) (A : Option Addr) (c : Nat) (us : List ByteArray) {w : World} (hu : user.size ≤ maxLen) {r : Bool} (hr : (!(nameB user && (decide (0 ≤ id) && decide (id < 256)) && decide (0 < st) && decide (st < 10) && decide (0 ≤ pr) && decide (pr < 10))) = r) :
    Calls Tryz.prog 30 #[.agg #[.int .i64 1, .string user, .int .i64 id, .int .i64 st, .int .i64 pr, .int .u64 ttl, .slice A us.length c]] w fun e w' => e = .returned (.bool r) ∧ Below w.heap.size w w' := by
  subst hr
  go_enter Tryz.func30, Tryz.ntmps30
  go_wp2_with fail
  all_goals (refine (rname user _ hu rfl).mono ?_; rintro e w' ⟨rfl, rfl⟩; go_wp2_with fail)
  all_goals (go_ret; refine ⟨?_, (Below.refl _ w).alloc (Nat.le_refl _) _⟩)
  all_goals (congr 2 <;> simp_all)
set_option maxRecDepth 100000 in
set_option maxHeartbeats 1600000 in
theorem rbad2 (user : ByteArray) (id st pr ttl : Int) (A : Option Addr) (c : Nat) (us : List ByteArray) {w : World} (hu : user.size ≤ maxLen) {r : Bool} (hr : (!(nameB user && (decide (0 ≤ id) && decide (id < 256)))) = r) :
    Calls Tryz.prog 30 #[.agg #[.int .i64 2, .string user, .int .i64 id, .int .i64 st, .int .i64 pr, .int .u64 ttl, .slice A us.length c]] w fun e w' => e = .returned (.bool r) ∧ Below w.heap.size w w' := by
  subst hr
  go_enter Tryz.func30, Tryz.ntmps30
  go_wp2_with fail
  all_goals (refine (rname user _ hu rfl).mono ?_; rintro e w' ⟨rfl, rfl⟩; go_wp2_with fail)
  all_goals (go_ret; refine ⟨?_, (Below.refl _ w).alloc (Nat.le_refl _) _⟩)
  all_goals (congr 2 <;> simp_all)
set_option maxRecDepth 100000 in
set_option maxHeartbeats 1600000 in
theorem rbad3 (user : ByteArray) (id st pr ttl : Int) (A : Option Addr) (c : Nat) (us : List ByteArray) {w : World} (hu : user.size ≤ maxLen) {r : Bool} (hr : (!(nameB user && (decide (0 ≤ id) && decide (id < 256)))) = r) :
    Calls Tryz.prog 30 #[.agg #[.int .i64 3, .string user, .int .i64 id, .int .i64 st, .int .i64 pr, .int .u64 ttl, .slice A us.length c]] w fun e w' => e = .returned (.bool r) ∧ Below w.heap.size w w' := by
  subst hr
  go_enter Tryz.func30, Tryz.ntmps30
  go_wp2_with fail
  all_goals (refine (rname user _ hu rfl).mono ?_; rintro e w' ⟨rfl, rfl⟩; go_wp2_with fail)
  all_goals (go_ret; refine ⟨?_, (Below.refl _ w).alloc (Nat.le_refl _) _⟩)
  all_goals (congr 2 <;> simp_all)
set_option maxRecDepth 100000 in
set_option maxHeartbeats 1600000 in
theorem rbad4 (user : ByteArray) (id st pr ttl : Int) (A : Option Addr) (c : Nat) (us : List ByteArray) {w : World} (hu : user.size ≤ maxLen) {r : Bool} (hr : (!nameB user) = r) :
    Calls Tryz.prog 30 #[.agg #[.int .i64 4, .string user, .int .i64 id, .int .i64 st, .int .i64 pr, .int .u64 ttl, .slice A us.length c]] w fun e w' => e = .returned (.bool r) ∧ Below w.heap.size w w' := by
  subst hr
  go_enter Tryz.func30, Tryz.ntmps30
  go_wp2_with fail
  all_goals (refine (rname user _ hu rfl).mono ?_; rintro e w' ⟨rfl, rfl⟩; go_wp2_with fail)
  all_goals (go_ret; refine ⟨?_, (Below.refl _ w).alloc (Nat.le_refl _) _⟩)
  all_goals (congr 2 <;> simp_all)
set_option maxRecDepth 100000 in
set_option maxHeartbeats 1600000 in
theorem rbad6 (user : ByteArray) (id st pr ttl : Int) (A : Option Addr) (c : Nat) (us : List ByteArray) {w : World} (hu : user.size ≤ maxLen) {r : Bool} (hr : (!nameB user) = r) :
    Calls Tryz.prog 30 #[.agg #[.int .i64 6, .string user, .int .i64 id, .int .i64 st, .int .i64 pr, .int .u64 ttl, .slice A us.length c]] w fun e w' => e = .returned (.bool r) ∧ Below w.heap.size w w' := by
  subst hr
  go_enter Tryz.func30, Tryz.ntmps30
  go_wp2_with fail
  all_goals (refine (rname user _ hu rfl).mono ?_; rintro e w' ⟨rfl, rfl⟩; go_wp2_with fail)
  all_goals (go_ret; refine ⟨?_, (Below.refl _ w).alloc (Nat.le_refl _) _⟩)
  all_goals (congr 2 <;> simp_all)
set_option maxRecDepth 100000 in
set_option maxHeartbeats 1600000 in
theorem rbad7 (user : ByteArray) (id st pr ttl : Int) (A : Option Addr) (c : Nat) (us : List ByteArray) {w : World} (hu : user.size ≤ maxLen) {r : Bool} (hr : (!nameB user) = r) :
    Calls Tryz.prog 30 #[.agg #[.int .i64 7, .string user, .int .i64 id, .int .i64 st, .int .i64 pr, .int .u64 ttl, .slice A us.length c]] w fun e w' => e = .returned (.bool r) ∧ Below w.heap.size w w' := by
  subst hr
  go_enter Tryz.func30, Tryz.ntmps30
  go_wp2_with fail
  all_goals (refine (rname user _ hu rfl).mono ?_; rintro e w' ⟨rfl, rfl⟩; go_wp2_with fail)
  all_goals (go_ret; refine ⟨?_, (Below.refl _ w).alloc (Nat.le_refl _) _⟩)
  all_goals (congr 2 <;> simp_all)
set_option maxRecDepth 100000 in
set_option maxHeartbeats 1600000 in
theorem rbad8 (user : ByteArray) (id st pr ttl : Int) (A : Option Addr) (c : Nat) (us : List ByteArray) {w : World} {r : Bool} (hr : false = r) :
    Calls Tryz.prog 30 #[.agg #[.int .i64 8, .string user, .int .i64 id, .int .i64 st, .int .i64 pr, .int .u64 ttl, .slice A us.length c]] w fun e w' => e = .returned (.bool r) ∧ Below w.heap.size w w' := by
  subst hr
  go_enter Tryz.func30, Tryz.ntmps30
  go_wp2_with fail
  all_goals (go_ret; refine ⟨?_, (Below.refl _ w).alloc (Nat.le_refl _) _⟩)
  all_goals (congr 2 <;> simp_all)
set_option maxRecDepth 100000 in
set_option maxHeartbeats 1600000 in
theorem rbad9 (user : ByteArray) (id st pr ttl : Int) (A : Option Addr) (c : Nat) (us : List ByteArray) {w : World} {r : Bool} (hr : false = r) :
    Calls Tryz.prog 30 #[.agg #[.int .i64 9, .string user, .int .i64 id, .int .i64 st, .int .i64 pr, .int .u64 ttl, .slice A us.length c]] w fun e w' => e = .returned (.bool r) ∧ Below w.heap.size w w' := by
  subst hr
  go_enter Tryz.func30, Tryz.ntmps30
  go_wp2_with fail
  all_goals (go_ret; refine ⟨?_, (Below.refl _ w).alloc (Nat.le_refl _) _⟩)
  all_goals (congr 2 <;> simp_all)
set_option maxRecDepth 100000 in
set_option maxHeartbeats 1600000 in
theorem rbad0 (user : ByteArray) (id st pr ttl : Int) (A : Option Addr) (c : Nat) (us : List ByteArray) {w : World} {kind : Int} (hk : ¬ (1 ≤ kind ∧ kind ≤ 9)) {r : Bool} (hr : true = r) :
    Calls Tryz.prog 30 #[.agg #[.int .i64 kind, .string user, .int .i64 id, .int .i64 st, .int .i64 pr, .int .u64 ttl, .slice A us.length c]] w fun e w' => e = .returned (.bool r) ∧ Below w.heap.size w w' := by
  subst hr
  have k1 : (kind == 1) = false := by simp; omega
  have k2 : (kind == 2) = false := by simp; omega
  have k3 : (kind == 3) = false := by simp; omega
  have k4 : (kind == 4) = false := by simp; omega
  have k5 : (kind == 5) = false := by simp; omega
  have k6 : (kind == 6) = false := by simp; omega
  have k7 : (kind == 7) = false := by simp; omega
  have k8 : (kind == 8) = false := by simp; omega
  have k9 : (kind == 9) = false := by simp; omega
  have m8 : (kind != 8) = true := by simp; omega
  have m9 : (kind != 9) = true := by simp; omega
  go_enter Tryz.func30, Tryz.ntmps30
  go_wp2_with fail
  all_goals (go_ret; refine ⟨?_, (Below.refl _ w).alloc (Nat.le_refl _) _⟩)
  all_goals (congr 2 <;> simp_all)
end Mod
end Go.Proofs.YtombdjkfbjpipaaGreat
/-
  The reference's Bad (layer 10) at a Batch; whom an op asks that is none of a Query and a Batch; both together.
-/
namespace Go.Proofs.YtombdjkfbjpipaaGreat
open Go.RowKit Go.Shelf
attribute [local go_sem] Oper.semAt_some
namespace Mod
open Go.Law Feed Bk
/-- the users' place in an op -/
theorem op_part {w : World} {b : Nat} {v0 v1 v2 v3 v4 v5 v6 : Value} (h : Law.Is w b 37 #[v0, v1, v2, v3, v4, v5, v6]) : (partAt ⟨b, 0, none⟩ 6 56).run Tryz.prog w = .ok ⟨b, 6, none⟩ w := by
  unfold Law.Is at h
  have e0 : Tryz.prog.cellsOf 37 = 7 := by kernel_rfl
  have e1 : Tryz.prog.bytesOf 37 = 80 := by kernel_rfl
  have e2 : byteOfCell Tryz.prog Tryz.prog.depth 37 0 = some 0 := by kernel_rfl
  have e3 : byteOfCell Tryz.prog Tryz.prog.depth 37 6 = some 56 := by kernel_rfl
  have e4 : ∀ g : Option (TypeId × Nat) → Sem (Option (TypeId × Nat)), (Sem.shape b g).run Tryz.prog w = (g (w.shape? b)).run Tryz.prog w := fun g => rfl
  have e5 : w.shape? b = some (37, 7) := by simp [World.shape?, h]
  simp [partAt, byteOf, noView, viewAt, shape, getObj, go_sem, e0, e1, e2, e3, e4, e5]
set_option maxRecDepth 100000 in
set_option maxHeartbeats 2000000 in
theorem rbad5 (user : ByteArray) (id st pr ttl : Int) (A : Option Addr) (c : Nat) (us : List ByteArray) {w : World} (hs : Seq w 0 w.heap.size A (us.map .string)) (hl : us.length ≤ 1000) (hz : ∀ u ∈ us, u.size ≤ maxLen) {r : Bool} (hr : (!((decide (1 ≤ us.length) && decide (us.length ≤ 8)) && us.all nameB)) = r) :
    Calls Tryz.prog 30 #[.agg #[.int .i64 5, .string user, .int .i64 id, .int .i64 st, .int .i64 pr, .int .u64 ttl, .slice A us.length c]] w fun e w' => e = .returned (.bool r) ∧ Below w.heap.size w w' := by
  have bb := (Below.refl w.heap.size w).alloc (Nat.le_refl _) (.cells #[.int .i64 5, .string user, .int .i64 id, .int .i64 st, .int .i64 pr, .int .u64 ttl, .slice A us.length c] 37)
  have HS1 := Lib.hid ((hs.below bb).more bb.size)
  have HX := Lib.hid (Is.new w 37 #[.int .i64 5, .string user, .int .i64 id, .int .i64 st, .int .i64 pr, .int .u64 ttl, .slice A us.length c] rfl)
  have HB := Lib.hid bb
  have HZ := Lib.hid hz
  have HR := Lib.hid hr
  clear hs hz bb hr
  by_cases h1 : us.length < 1
  · skip
    cases hid : decide (0 ≤ id) <;>
    · have HB0 : Hid (true = !(decide (1 ≤ us.length) && decide (us.length ≤ 8))) := by show _ = _; rw [Bool.eq_iff_iff]; simp only [Bool.not_eq_true', Bool.and_eq_false_iff, decide_eq_false_iff_not, true_iff]; omega
      have l1 : decide ((us.length : Int) < 1) = true := decide_eq_true (by omega)
      have l2 : decide ((8 : Int) < (us.length : Int)) = false := decide_eq_false (by omega)
      go_enter Tryz.func30, Tryz.ntmps30
      go_wp2_with fail
      generalize (w.alloc (.cells #[.int .i64 5, .string user, .int .i64 id, .int .i64 st, .int .i64 pr, .int .u64 ttl, .slice A us.length c] 37)) = w1 at *
      have lx := HX.out.lt
      have c6 : w1.cell? ⟨w.heap.size, 6, none⟩ = some (.slice A us.length c) := HX.out.cell' rfl
      have hpart := op_part HX.out
      go_loop [4, 5] (fun v i => ∃ j : Nat, j ≤ us.length ∧ i = .int .i64 j ∧ v = .bool (true || !(us.take j).all nameB)) (fun _ i => us.length - (intOf i).toNat)
      case atStart => exact ⟨0, Nat.zero_le _, rfl, by simp⟩
      case round =>
        obtain ⟨j, hj, rfl, rfl⟩ := hrel
        by_cases hlt : j < us.length
        · obtain ⟨b, off, rfl, _, hb, c0⟩ := HS1.out.str hlt
          have e1 : decide ((j : Int) < (us.length : Int)) = true := by simp; omega
          have HT : Hid ((us.take (j + 1)).all nameB = ((us.take j).all nameB && nameB us[j])) := by show _ = _; rw [List.take_succ_eq_append_getElem hlt, List.all_append]; simp
          have hzu := Lib.hid (HZ.out _ (List.getElem_mem hlt))
          generalize us[j] = u at *
          cases hv : (true || !(us.take j).all nameB) with
          | true =>
            go_wp2_with fail
            go_round
            case rel => exact ⟨j + 1, by omega, by go_num, by rw [HT.out]; simp_all⟩
            case measure => simp [intOf]; omega
          | false =>
            go_wp2_with fail
            refine (rname u _ hzu.out rfl).mono ?_
            rintro e w' ⟨rfl, rfl⟩
            go_wp2_with fail
            go_round
            case rel => exact ⟨j + 1, by omega, by go_num, by rw [HT.out]; simp_all⟩
            case measure => simp [intOf]; omega
        · have e1 : us.take j = us := List.take_of_length_le (by omega)
          have e2 : decide ((j : Int) < (us.length : Int)) = false := by simp; omega
          rw [e1]
          go_wp2_with fail
          go_ret
          exact ⟨by rw [← HR.out, Bool.not_and, ← HB0.out]; rfl, HB.out⟩
  · by_cases h2 : 8 < us.length
    · skip
      cases hid : decide (0 ≤ id) <;>
      · have HB0 : Hid (true = !(decide (1 ≤ us.length) && decide (us.length ≤ 8))) := by show _ = _; rw [Bool.eq_iff_iff]; simp only [Bool.not_eq_true', Bool.and_eq_false_iff, decide_eq_false_iff_not, true_iff]; omega
        have l1 : decide ((us.length : Int) < 1) = false := decide_eq_false (by omega)
        have l2 : decide ((8 : Int) < (us.length : Int)) = true := decide_eq_true (by omega)
        go_enter Tryz.func30, Tryz.ntmps30
        go_wp2_with fail
        generalize (w.alloc (.cells #[.int .i64 5, .string user, .int .i64 id, .int .i64 st, .int .i64 pr, .int .u64 ttl, .slice A us.length c] 37)) = w1 at *
        have lx := HX.out.lt
        have c6 : w1.cell? ⟨w.heap.size, 6, none⟩ = some (.slice A us.length c) := HX.out.cell' rfl
        have hpart := op_part HX.out
        go_loop [4, 5] (fun v i => ∃ j : Nat, j ≤ us.length ∧ i = .int .i64 j ∧ v = .bool (true || !(us.take j).all nameB)) (fun _ i => us.length - (intOf i).toNat)
        case atStart => exact ⟨0, Nat.zero_le _, rfl, by simp⟩
        case round =>
          obtain ⟨j, hj, rfl, rfl⟩ := hrel
          by_cases hlt : j < us.length
          · obtain ⟨b, off, rfl, _, hb, c0⟩ := HS1.out.str hlt
            have e1 : decide ((j : Int) < (us.length : Int)) = true := by simp; omega
            have HT : Hid ((us.take (j + 1)).all nameB = ((us.take j).all nameB && nameB us[j])) := by show _ = _; rw [List.take_succ_eq_append_getElem hlt, List.all_append]; simp
            have hzu := Lib.hid (HZ.out _ (List.getElem_mem hlt))
            generalize us[j] = u at *
            cases hv : (true || !(us.take j).all nameB) with
            | true =>
              go_wp2_with fail
              go_round
              case rel => exact ⟨j + 1, by omega, by go_num, by rw [HT.out]; simp_all⟩
              case measure => simp [intOf]; omega
            | false =>
              go_wp2_with fail
              refine (rname u _ hzu.out rfl).mono ?_
              rintro e w' ⟨rfl, rfl⟩
              go_wp2_with fail
              go_round
              case rel => exact ⟨j + 1, by omega, by go_num, by rw [HT.out]; simp_all⟩
              case measure => simp [intOf]; omega
          · have e1 : us.take j = us := List.take_of_length_le (by omega)
            have e2 : decide ((j : Int) < (us.length : Int)) = false := by simp; omega
            rw [e1]
            go_wp2_with fail
            go_ret
            exact ⟨by rw [← HR.out, Bool.not_and, ← HB0.out]; rfl, HB.out⟩
    · skip
      cases hid : decide (0 ≤ id) <;>
      · have HB0 : Hid (false = !(decide (1 ≤ us.length) && decide (us.length ≤ 8))) := by show _ = _; rw [Bool.eq_iff_iff]; simp only [Bool.not_eq_true', Bool.and_eq_false_iff, decide_eq_false_iff_not, Bool.false_eq_true, false_iff]; omega
        have l1 : decide ((us.length : Int) < 1) = false := decide_eq_false (by omega)
        have l2 : decide ((8 : Int) < (us.length : Int)) = false := decide_eq_false (by omega)
        go_enter Tryz.func30, Tryz.ntmps30
        go_wp2_with fail
        generalize (w.alloc (.cells #[.int .i64 5, .string user, .int .i64 id, .int .i64 st, .int .i64 pr, .int .u64 ttl, .slice A us.length c] 37)) = w1 at *
        have lx := HX.out.lt
        have c6 : w1.cell? ⟨w.heap.size, 6, none⟩ = some (.slice A us.length c) := HX.out.cell' rfl
        have hpart := op_part HX.out
        go_loop [4, 5] (fun v i => ∃ j : Nat, j ≤ us.length ∧ i = .int .i64 j ∧ v = .bool (false || !(us.take j).all nameB)) (fun _ i => us.length - (intOf i).toNat)
        case atStart => exact ⟨0, Nat.zero_le _, rfl, by simp⟩
        case round =>
          obtain ⟨j, hj, rfl, rfl⟩ := hrel
          by_cases hlt : j < us.length
          · obtain ⟨b, off, rfl, _, hb, c0⟩ := HS1.out.str hlt
            have e1 : decide ((j : Int) < (us.length : Int)) = true := by simp; omega
            have HT : Hid ((us.take (j + 1)).all nameB = ((us.take j).all nameB && nameB us[j])) := by show _ = _; rw [List.take_succ_eq_append_getElem hlt, List.all_append]; simp
            have hzu := Lib.hid (HZ.out _ (List.getElem_mem hlt))
            generalize us[j] = u at *
            cases hv : (false || !(us.take j).all nameB) with
            | true =>
              go_wp2_with fail
              go_round
              case rel => exact ⟨j + 1, by omega, by go_num, by rw [HT.out]; simp_all⟩
              case measure => simp [intOf]; omega
            | false =>
              go_wp2_with fail
              refine (rname u _ hzu.out rfl).mono ?_
              rintro e w' ⟨rfl, rfl⟩
              go_wp2_with fail
              go_round
              case rel => exact ⟨j + 1, by omega, by go_num, by rw [HT.out]; simp_all⟩
              case measure => simp [intOf]; omega
          · have e1 : us.take j = us := List.take_of_length_le (by omega)
            have e2 : decide ((j : Int) < (us.length : Int)) = false := by simp; omega
            rw [e1]
            go_wp2_with fail
            go_ret
            exact ⟨by rw [← HR.out, Bool.not_and, ← HB0.out]; rfl, HB.out⟩
/-- the reference's Bad, of any op -/
theorem rbad (q : OpW) {w : World} (h : q.In w) (hl : q.us.length ≤ 1000) {r : Bool} (hr : (!goodB q) = r) : Calls Tryz.prog 30 #[q.v.val] w fun e w' => e = .returned (.bool r) ∧ Below w.heap.size w w' := by
  obtain ⟨kind, user, id, st, pr, ttl, A, c, us⟩ := q
  obtain ⟨hs, hl', hz, hu, _⟩ := h
  simp only at hs hl' hz hu hl
  have hid : (decide (0 ≤ id) && decide (id < 256)) = idB id := by rw [Bool.eq_iff_iff]; simp only [idB, Bool.and_eq_true, decide_eq_true_eq]; omega
  unfold goodB at hr
  simp only at hr
  show Calls _ _ #[.agg #[.int .i64 kind, .string user, .int .i64 id, .int .i64 st, .int .i64 pr, .int .u64 ttl, .slice A us.length c]] _ _
  by_cases hk : 1 ≤ kind ∧ kind ≤ 9
  · have h9 : kind = 1 ∨ kind = 2 ∨ kind = 3 ∨ kind = 4 ∨ kind = 5 ∨ kind = 6 ∨ kind = 7 ∨ kind = 8 ∨ kind = 9 := by omega
    rcases h9 with rfl | rfl | rfl | rfl | rfl | rfl | rfl | rfl | rfl
    · refine rbad1 user id st pr ttl A c us hu ?_
      rw [if_pos rfl] at hr
      rw [← hr]
      cases nameB user with
      | false => rfl
      | true =>
        simp only [Bool.true_and]
        congr 1
        rw [Bool.eq_iff_iff]
        simp only [idB, Bool.and_eq_true, decide_eq_true_eq]
        omega
    · exact rbad2 user id st pr ttl A c us hu (by rw [hid, ← hr]; rfl)
    · exact rbad3 user id st pr ttl A c us hu (by rw [hid, ← hr]; rfl)
    · exact rbad4 user id st pr ttl A c us hu (by rw [← hr]; rfl)
    · exact rbad5 user id st pr ttl A c us hs hl hz (by rw [← hr]; rfl)
    · exact rbad6 user id st pr ttl A c us hu (by rw [← hr]; rfl)
    · exact rbad7 user id st pr ttl A c us hu (by rw [← hr]; rfl)
    · exact rbad8 user id st pr ttl A c us (by rw [← hr]; rfl)
    · exact rbad9 user id st pr ttl A c us (by rw [← hr]; rfl)
  · rw [if_neg (by omega), if_neg (by omega), if_neg (by omega), if_neg (by omega), decide_eq_false (by omega)] at hr
    subst hr
    exact rbad0 user id st pr ttl A c us hk rfl
set_option maxHeartbeats 1000000 in
theorem users0 (kind : Int) (h4 : kind ≠ 4) (h5 : kind ≠ 5) (user : ByteArray) (id st pr ttl : Int) (us : Value) (w : World) :
    Calls Tryz.prog 28 #[.agg #[.int .i64 kind, .string user, .int .i64 id, .int .i64 st, .int .i64 pr, .int .u64 ttl, us]] w (Names w []) := by
  have k4 : (kind == 4) = false := by simpa using h4
  have k5 : (kind == 5) = false := by simpa using h5
  go_enter Tryz.func28, Tryz.ntmps28
  go_wp2_with fail
  go_ret
  exact ⟨none, 0, rfl, fun h => absurd rfl h, (Below.refl _ w).alloc (Nat.le_refl _) _⟩
end Mod
end Go.Proofs.YtombdjkfbjpipaaGreat
