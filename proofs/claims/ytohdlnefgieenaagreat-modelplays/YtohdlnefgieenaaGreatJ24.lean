/-
  What Short, long and befalls (layer 10's statements) come to.
-/
import Derived.Test.YtohdlnefgieenaaGreatJ23
namespace Go.Proofs.YtohdlnefgieenaaGreat
open Go.RowKit Go.Shelf
attribute [local go_sem] Oper.semAt_some
namespace Mod
open Go.Law Feed Bk
theorem _root_.Go.Law.OpW.In.mono_ {q : OpW} {w w' : World} (h : q.In w) (hb : Below w.heap.size w w') : q.In w' := h.below hb
abbrev _root_.Go.Law.AcM.box (q : AcM) : Array Value := #[.int .u8 q.do_, .int .i64 q.who, .int .i64 q.op.kind, .string q.op.user, .int .i64 q.op.id, .int .i64 q.op.st, .int .i64 q.op.pr, .int .u64 q.op.ttl, .slice q.op.A q.op.us.length q.op.c, .int .u64 q.by_]
/-- an act's cells -/
structure MAt (w : World) (b o : Nat) (q : AcM) : Prop where
  c0 : w.cell? ⟨b, o, none⟩ = some (.int .u8 q.do_)
  c1 : w.cell? ⟨b, o + 1, none⟩ = some (.int .i64 q.who)
  c2 : w.cell? ⟨b, o + 2, none⟩ = some (.int .i64 q.op.kind)
  c3 : w.cell? ⟨b, o + 3, none⟩ = some (.string q.op.user)
  c4 : w.cell? ⟨b, o + 4, none⟩ = some (.int .i64 q.op.id)
  c5 : w.cell? ⟨b, o + 5, none⟩ = some (.int .i64 q.op.st)
  c6 : w.cell? ⟨b, o + 6, none⟩ = some (.int .i64 q.op.pr)
  c7 : w.cell? ⟨b, o + 7, none⟩ = some (.int .u64 q.op.ttl)
  c8 : w.cell? ⟨b, o + 8, none⟩ = some (.slice q.op.A q.op.us.length q.op.c)
  c9 : w.cell? ⟨b, o + 9, none⟩ = some (.int .u64 q.by_)
theorem _root_.Go.Law.Seq.acM {w : World} {lo B : Nat} {A : Option Addr} {l : List AcM} {i : Nat} (h : Seq w lo B A (l.flatMap cellsM)) (hi : i < l.length) : ∃ b off, A = some ⟨b, off, none⟩ ∧ lo ≤ b ∧ b < B ∧ MAt w b (off + i * 10) l[i] := by
  obtain ⟨b, off, hA, h1, h2, hc⟩ := Seq.row (cells := cellsM) (fun _ => rfl) (by decide : 0 < 10) h hi
  exact ⟨b, off, hA, h1, h2, by simpa using hc 0 _ rfl, hc 1 _ rfl, hc 2 _ rfl, hc 3 _ rfl, hc 4 _ rfl, hc 5 _ rfl, hc 6 _ rfl, hc 7 _ rfl, hc 8 _ rfl, hc 9 _ rfl⟩
theorem isM {w : World} {g : Nat} {t : TypeId} {q : AcM} (h : Is w g t q.box) : MAt w g 0 q := ⟨h.cell' rfl, h.cell' rfl, h.cell' rfl, h.cell' rfl, h.cell' rfl, h.cell' rfl, h.cell' rfl, h.cell' rfl, h.cell' rfl, h.cell' rfl⟩
/-- has an op few and short names? -/
def shortB (q : OpW) : Bool := decide (q.user.size ≤ 40) && (decide (q.us.length ≤ 20) && q.us.all fun u => decide (u.size ≤ 40))
set_option maxRecDepth 100000 in
set_option maxHeartbeats 2000000 in
theorem short (q : OpW) {w : World} (h : q.In w) {r : Bool} (hr : shortB q = r) : Calls Tryz.prog 22 #[q.v.val] w fun e w' => e = .returned (.bool r) ∧ Below w.heap.size w w' := by
  obtain ⟨kind, user, id, st, pr, ttl, A, c, us⟩ := q
  subst hr
  have bb := (Below.refl w.heap.size w).alloc (Nat.le_refl _) (.cells #[.int .i64 kind, .string user, .int .i64 id, .int .i64 st, .int .i64 pr, .int .u64 ttl, .slice A us.length c] 37)
  have IN1 := Lib.hid (h.below bb)
  have HX := Lib.hid (Is.new w 37 #[.int .i64 kind, .string user, .int .i64 id, .int .i64 st, .int .i64 pr, .int .u64 ttl, .slice A us.length c] rfl)
  have HB := Lib.hid bb
  have hl := h.len
  have hu := h.user
  simp only at hl hu
  unfold maxLen at hl hu
  clear h bb
  show Calls _ _ #[.agg #[.int .i64 kind, .string user, .int .i64 id, .int .i64 st, .int .i64 pr, .int .u64 ttl, .slice A us.length c]] _ _
  by_cases h0 : user.size ≤ 40
  · have d0 : decide ((40 : Int) < (user.size : Int)) = false := by simp; omega
    by_cases h1 : us.length ≤ 20
    · have d1 : decide ((20 : Int) < (us.length : Int)) = false := by simp; omega
      have HE : Hid (shortB ⟨kind, user, id, st, pr, ttl, A, c, us⟩ = us.all fun u => decide (u.size ≤ 40)) := by show _ = _; unfold shortB; simp [h0, h1]
      rw [HE.out]
      go_enter Tryz.func22, Tryz.ntmps22
      go_wp2_with fail
      generalize (w.alloc (.cells #[.int .i64 kind, .string user, .int .i64 id, .int .i64 st, .int .i64 pr, .int .u64 ttl, .slice A us.length c] 37)) = w1 at *
      have HX1 := Lib.hid (HX.out.cell' (i := 6) rfl)
      have lx := HX.out.lt
      have c6 : w1.cell? ⟨w.heap.size, 6, none⟩ = some (.slice A us.length c) := HX1.out
      go_loop [3] (fun i => ∃ j : Nat, j ≤ us.length ∧ i = .int .i64 j ∧ (us.take j).all (fun u => decide (u.size ≤ 40)) = true) (fun i => us.length - (intOf i).toNat)
      case atStart => exact ⟨0, Nat.zero_le _, rfl, by simp⟩
      case round =>
        obtain ⟨j, hj, rfl, ha⟩ := hrel
        have HA := Lib.hid ha
        clear ha
        by_cases hlt : j < us.length
        · obtain ⟨b, off, rfl, _, hb, c0⟩ := IN1.out.us.str hlt
          have e1 : decide ((j : Int) < (us.length : Int)) = true := by simp; omega
          have HT : Hid ((us.take (j + 1)).all (fun u => decide (u.size ≤ 40)) = ((us.take j).all (fun u => decide (u.size ≤ 40)) && decide (us[j].size ≤ 40))) := by show _ = _; rw [List.take_succ_eq_append_getElem hlt, List.all_append]; simp
          have HM := Lib.hid (List.getElem_mem hlt)
          have hz := IN1.out.size _ HM.out
          unfold maxLen at hz
          simp only at c0 hz hb
          generalize us[j] = u at *
          by_cases hu2 : u.size ≤ 40
          · have d2 : decide ((40 : Int) < (u.size : Int)) = false := by simp; omega
            go_wp2_with fail
            go_round
            case rel => exact ⟨j + 1, by omega, by go_num, by rw [HT.out, HA.out]; simpa using hu2⟩
            case measure => simp [intOf]; omega
          · have d2 : decide ((40 : Int) < (u.size : Int)) = true := by simp; omega
            have HE2 : Hid ((us.all fun u => decide (u.size ≤ 40)) = false) := by show _ = _; rw [List.all_eq_false]; exact ⟨u, HM.out, by simpa using hu2⟩
            go_wp2_with fail
            go_ret
            exact ⟨by rw [HE2.out]; rfl, HB.out⟩
        · have e1 : us.take j = us := List.take_of_length_le (by omega)
          have e2 : decide ((j : Int) < (us.length : Int)) = false := by simp; omega
          rw [e1] at HA
          go_wp2_with fail
          go_ret
          exact ⟨by rw [HA.out]; rfl, HB.out⟩
    · have d1 : decide ((20 : Int) < (us.length : Int)) = true := by simp; omega
      have HE : Hid (shortB ⟨kind, user, id, st, pr, ttl, A, c, us⟩ = false) := by show _ = _; unfold shortB; simp; omega
      rw [HE.out]
      go_enter Tryz.func22, Tryz.ntmps22
      go_wp2_with fail
      go_ret
      exact ⟨rfl, HB.out⟩
  · have d0 : decide ((40 : Int) < (user.size : Int)) = true := by simp; omega
    have HE : Hid (shortB ⟨kind, user, id, st, pr, ttl, A, c, us⟩ = false) := by show _ = _; unfold shortB; simp; omega
    rw [HE.out]
    go_enter Tryz.func22, Tryz.ntmps22
    go_wp2_with fail
    go_ret
    exact ⟨rfl, HB.out⟩
/-- is there more than is looked at? -/
def longM (l : List AcM) : Bool := decide (120 < l.length) || l.any fun q => !shortB q.op
theorem longM_no {l : List AcM} (h : longM l = false) : l.length ≤ 120 ∧ ∀ q ∈ l, shortB q.op = true := by
  unfold longM at h
  rw [Bool.or_eq_false_iff] at h
  refine ⟨by simpa using h.1, fun q hq => ?_⟩
  have := h.2
  rw [List.any_eq_false] at this
  simpa using this q hq
set_option maxRecDepth 100000 in
set_option maxHeartbeats 2000000 in
theorem long (l : List AcM) (A : Option Addr) (c : Nat) (w : World) (hs : Seq w 0 w.heap.size A (l.flatMap cellsM)) (hl : l.length ≤ maxLen) (hq : ∀ q ∈ l, q.op.In w) {r : Bool} (hr : longM l = r) :
    Calls Tryz.prog 5 #[.slice A l.length c] w fun e w' => e = .returned (.bool r) ∧ Below w.heap.size w w' := by
  subst hr
  have HS := Lib.hid hs
  have HQ := Lib.hid hq
  clear hs hq
  unfold maxLen at hl
  by_cases h0 : 120 < l.length
  · have d0 : decide ((120 : Int) < (l.length : Int)) = true := by simp; omega
    have HE : Hid (longM l = true) := by show _ = _; unfold longM; simp [h0]
    go_enter Tryz.func5, Tryz.ntmps5
    go_wp2_with fail
    go_ret
    exact ⟨by rw [HE.out]; rfl, Below.refl _ _⟩
  · have d0 : decide ((120 : Int) < (l.length : Int)) = false := by simp; omega
    have HE : Hid (longM l = l.any fun q => !shortB q.op) := by show _ = _; unfold longM; simp [h0]
    go_enter Tryz.func5, Tryz.ntmps5
    go_wp2_with fail
    go_loopw [3] (fun i wr => ∃ j : Nat, j ≤ l.length ∧ i = .int .i64 j ∧ (l.take j).any (fun q => !shortB q.op) = false ∧ Below w.heap.size w wr) (fun i _ => l.length - (intOf i).toNat)
    case atStart => exact ⟨0, Nat.zero_le _, rfl, by simp, Below.refl _ _⟩
    case round =>
      obtain ⟨j, hj, rfl, ha, hB⟩ := hrel
      have HA := Lib.hid ha
      have HB := Lib.hid hB
      have sz := hB.size
      clear ha hB
      by_cases hlt : j < l.length
      · obtain ⟨b, off, rfl, _, hb, c0, c1, c2, c3, c4, c5, c6, c7, c8, c9⟩ := (HS.out.below HB.out).acM hlt
        have e1 : decide ((j : Int) < (l.length : Int)) = true := by simp; omega
        have HT : Hid ((l.take (j + 1)).any (fun q => !shortB q.op) = ((l.take j).any (fun q => !shortB q.op) || !shortB l[j].op)) := by show _ = _; rw [List.take_succ_eq_append_getElem hlt, List.any_append]; simp
        have HM := Lib.hid (List.getElem_mem hlt)
        have HIN := Lib.hid ((HQ.out _ HM.out).mono_ HB.out)
        have lb := Nat.lt_of_lt_of_le hb sz
        generalize l[j] = q at *
        obtain ⟨dI, qw, ⟨kind, user, id, st, pr, ttl, Au, cu, us⟩, by_⟩ := q
        simp only at c0 c1 c2 c3 c4 c5 c6 c7 c8 c9
        cases hsh : shortB ⟨kind, user, id, st, pr, ttl, Au, cu, us⟩ with
        | false =>
          have HE2 : Hid (longM l = true) := by show _ = _; rw [HE.out, List.any_eq_true]; exact ⟨_, HM.out, by simp [hsh]⟩
          go_wp2_with fail
          refine (short ⟨kind, user, id, st, pr, ttl, Au, cu, us⟩ HIN.out hsh).mono ?_
          rintro e w2 ⟨rfl, b2⟩
          have HB2 := Lib.hid (HB.out.trans (b2.mono sz))
          clear b2
          go_wp2_with fail
          go_ret
          exact ⟨by rw [HE2.out]; rfl, HB2.out⟩
        | true =>
          go_wp2_with fail
          refine (short ⟨kind, user, id, st, pr, ttl, Au, cu, us⟩ HIN.out hsh).mono ?_
          rintro e w2 ⟨rfl, b2⟩
          have HB2 := Lib.hid (HB.out.trans (b2.mono sz))
          clear b2
          go_wp2_with fail
          go_roundw
          case rel => exact ⟨j + 1, by omega, by go_num, by rw [HT.out, HA.out]; simp [hsh], HB2.out⟩
          case measure => simp [intOf]; omega
      · have e1 : l.take j = l := List.take_of_length_le (by omega)
        have e2 : decide ((j : Int) < (l.length : Int)) = false := by simp; omega
        rw [e1] at HA
        go_wp2_with fail
        go_ret
        exact ⟨by rw [HE.out, HA.out]; rfl, HB.out⟩
end Mod
end Go.Proofs.YtohdlnefgieenaaGreat
/-
  What befalls (layer 10's statements) comes to.
-/
namespace Go.Proofs.YtohdlnefgieenaaGreat
open Go.RowKit Go.Shelf
attribute [local go_sem] Oper.semAt_some
namespace Mod
open Go.Law Feed Bk
/-- what an act makes of a table, and its reply -/
def Mo.act (a : Mo) (q : AcM) : Mo × Rep := if q.do_ % 3 = 1 then (a.tick q.by_, Rep.of 0) else if q.do_ % 3 = 2 then (a.sweep (q.by_ % 9), Rep.of 0) else a.do_ q.who q.op
theorem act_ok {a : Mo} {b : Nat} (h : a.Ok b) (q : AcM) (ht : Door.U q.by_) : (a.act q).1.Ok (b + 1) := by
  unfold Mo.act
  split
  · exact (tick_ok h ht).more (by omega)
  · split
    · exact (sweep_ok h _).more (by omega)
    · exact do_ok h _ _
section
variable {w w' : World} {base m t c b : Nat} {S S' : Nat → Prop} {a : Mo}
set_option maxRecDepth 100000 in
set_option maxHeartbeats 2000000 in
theorem befalls (q : AcM) (h : Tab w base S m a) (ho : a.Ok b) (hb : b ≤ 380) (hbw : base ≤ w.heap.size) (hin : q.op.In w) (hd : 0 ≤ q.do_ ∧ q.do_ ≤ 255) (ht : Door.U q.by_) :
    Calls Tryz.prog 10 #[.pointer (some ⟨m, 0, none⟩), .agg q.box] w (Polled w base S m (a.act q).1 (a.act q).2) := by
  obtain ⟨dI, qw, ⟨kind, user, id, st, pr, ttl, A, c, us⟩, by_⟩ := q
  simp only at hd ht hin
  have bb := ((Below.refl w.heap.size w).alloc (Nat.le_refl _) (.cells #[.int .u8 dI, .int .i64 qw, .int .i64 kind, .string user, .int .i64 id, .int .i64 st, .int .i64 pr, .int .u64 ttl, .slice A us.length c, .int .u64 by_] 39)).alloc (by simp) (.cells #[.int .i64 0, .slice none 0 0, .slice none 0 0, .bool false] 43)
  have HX1 : Hid (Is ((w.alloc (.cells #[.int .u8 dI, .int .i64 qw, .int .i64 kind, .string user, .int .i64 id, .int .i64 st, .int .i64 pr, .int .u64 ttl, .slice A us.length c, .int .u64 by_] 39)).alloc (.cells #[.int .i64 0, .slice none 0 0, .slice none 0 0, .bool false] 43)) w.heap.size 39 #[.int .u8 dI, .int .i64 qw, .int .i64 kind, .string user, .int .i64 id, .int .i64 st, .int .i64 pr, .int .u64 ttl, .slice A us.length c, .int .u64 by_]) := (Is.new w _ _ rfl).alloc _
  have HR1 : Hid (Is ((w.alloc (.cells #[.int .u8 dI, .int .i64 qw, .int .i64 kind, .string user, .int .i64 id, .int .i64 st, .int .i64 pr, .int .u64 ttl, .slice A us.length c, .int .u64 by_] 39)).alloc (.cells #[.int .i64 0, .slice none 0 0, .slice none 0 0, .bool false] 43)) (w.heap.size + 1) 43 #[.int .i64 0, .slice none 0 0, .slice none 0 0, .bool false]) := Is.new _ _ _ (by simp)
  have H1 := Lib.hid (h.below bb)
  have G1 : Hid (Gone w S _ S) := Gone.of_below bb
  have IN1 := Lib.hid (hin.below bb)
  have HO := Lib.hid ho
  have hok := Lib.hid h.ok
  have hbw1 := Nat.le_trans hbw bb.size
  have NR : Hid (¬ S (w.heap.size + 1)) := fun hx => by have := (hok.out _ hx).2; omega
  have HT := Lib.hid ht
  obtain ⟨d, rfl⟩ := Int.eq_ofNat_of_zero_le hd.1
  clear bb h ho hin ht
  by_cases h1 : d % 3 = 1
  · have e1 : ((d : Int) % 3 == 1) = true := by simp; omega
    have HE : Hid (a.act ⟨(d : Int), qw, ⟨kind, user, id, st, pr, ttl, A, c, us⟩, by_⟩ = (a.tick by_, Rep.of 0)) := by show _ = _; unfold Mo.act; rw [if_pos (by show (d : Int) % 3 = 1; omega)]
    rw [HE.out]
    go_enter Tryz.func10, Tryz.ntmps10
    go_wp2_with fail
    generalize ((w.alloc (.cells #[.int .u8 (d : Int), .int .i64 qw, .int .i64 kind, .string user, .int .i64 id, .int .i64 st, .int .i64 pr, .int .u64 ttl, .slice A us.length c, .int .u64 by_] 39)).alloc (.cells #[.int .i64 0, .slice none 0 0, .slice none 0 0, .bool false] 43)) = w1 at *
    obtain ⟨t, c', arr, p, g, Sk, hV⟩ := H1.out
    refine (tick hV HO.out.now by_ HT.out).mono ?_
    rintro e w3 ⟨rfl, hT, hG⟩
    have HR3 := Lib.hid (hG.is HR1.out NR.out)
    have H3 := Lib.hid hT.tab
    have G3 := Lib.hid (G1.out.trans hG)
    clear hT hG hV
    have lr := HR3.out.lt
    have r0 := HR3.out.cell' (i := 0) rfl
    have r1 := HR3.out.cell' (i := 1) rfl
    have r2 := HR3.out.cell' (i := 2) rfl
    have r3 := HR3.out.cell' (i := 3) rfl
    have q0 := HR3.out.frozen 0
    have q1 := HR3.out.frozen 1
    have q2 := HR3.out.frozen 2
    have q3 := HR3.out.frozen 3
    go_wp2_with fail
    have HW := wrap HR3.out H3.out G3.out (Nat.le_succ _) NR.out (.int .i64 0) (.slice none 0 0) (.slice none 0 0) (.bool false)
    generalize (((w3.setCell ⟨w.heap.size + 1, 0, none⟩ (.int .i64 0)).setCell ⟨w.heap.size + 1, 1, none⟩ (.slice none 0 0)).setCell ⟨w.heap.size + 1, 2, none⟩ (.slice none 0 0)).setCell ⟨w.heap.size + 1, 3, none⟩ (.bool false) = wz at *
    have n0 := HW.box.cell' (i := 0) rfl
    have n1 := HW.box.cell' (i := 1) rfl
    have n2 := HW.box.cell' (i := 2) rfl
    have n3 := HW.box.cell' (i := 3) rfl
    refine bodyPost_ret (v := .agg #[.int .i64 0, .slice none 0 0, .slice none 0 0, .bool false]) (by simp [results, Tryz.results10, go_sem, n0, n1, n2, n3]) rfl ?_
    exact ⟨none, 0, none, 0, rfl, fun h => absurd rfl h, fun h => absurd rfl h, S, HW.tab, HW.gone⟩
  · by_cases h2 : d % 3 = 2
    · have e1 : ((d : Int) % 3 == 1) = false := by simp; omega
      have e2 : ((d : Int) % 3 == 2) = true := by simp; omega
      have HE : Hid (a.act ⟨(d : Int), qw, ⟨kind, user, id, st, pr, ttl, A, c, us⟩, by_⟩ = (a.sweep (by_ % 9), Rep.of 0)) := by show _ = _; unfold Mo.act; rw [if_neg (by show ¬ (d : Int) % 3 = 1; omega), if_pos (by show (d : Int) % 3 = 2; omega)]
      rw [HE.out]
      go_enter Tryz.func10, Tryz.ntmps10
      go_wp2_with fail
      have hmod : wrap64 (by_.tmod 9) = by_ % 9 := by have h0 := HT.out.1; rw [Int.tmod_eq_emod_of_nonneg h0]; have := Int.emod_nonneg by_ (show (9 : Int) ≠ 0 by decide); have := Int.emod_lt_of_pos by_ (show (0 : Int) < 9 by decide); unfold wrap64; omega
      rw [hmod]
      generalize ((w.alloc (.cells #[.int .u8 (d : Int), .int .i64 qw, .int .i64 kind, .string user, .int .i64 id, .int .i64 st, .int .i64 pr, .int .u64 ttl, .slice A us.length c, .int .u64 by_] 39)).alloc (.cells #[.int .i64 0, .slice none 0 0, .slice none 0 0, .bool false] 43)) = w1 at *
      refine (sweep H1.out HO.out hb hbw1 (by_ % 9)).mono ?_
      rintro e w3 ⟨rfl, S', hT, hG⟩
      have HR3 := Lib.hid (hG.is HR1.out NR.out)
      have H3 := Lib.hid hT
      have G3 := Lib.hid (G1.out.trans hG)
      have N3 : ¬ S' (w.heap.size + 1) := fun hx => (hG.new _ hx).elim NR.out (fun h' => by have := HR1.out.lt; omega)
      clear hT hG
      have lr := HR3.out.lt
      have r0 := HR3.out.cell' (i := 0) rfl
      have r1 := HR3.out.cell' (i := 1) rfl
      have r2 := HR3.out.cell' (i := 2) rfl
      have r3 := HR3.out.cell' (i := 3) rfl
      have q0 := HR3.out.frozen 0
      have q1 := HR3.out.frozen 1
      have q2 := HR3.out.frozen 2
      have q3 := HR3.out.frozen 3
      go_wp2_with fail
      have HW := wrap HR3.out H3.out G3.out (Nat.le_succ _) N3 (.int .i64 0) (.slice none 0 0) (.slice none 0 0) (.bool false)
      generalize (((w3.setCell ⟨w.heap.size + 1, 0, none⟩ (.int .i64 0)).setCell ⟨w.heap.size + 1, 1, none⟩ (.slice none 0 0)).setCell ⟨w.heap.size + 1, 2, none⟩ (.slice none 0 0)).setCell ⟨w.heap.size + 1, 3, none⟩ (.bool false) = wz at *
      have n0 := HW.box.cell' (i := 0) rfl
      have n1 := HW.box.cell' (i := 1) rfl
      have n2 := HW.box.cell' (i := 2) rfl
      have n3 := HW.box.cell' (i := 3) rfl
      refine bodyPost_ret (v := .agg #[.int .i64 0, .slice none 0 0, .slice none 0 0, .bool false]) (by simp [results, Tryz.results10, go_sem, n0, n1, n2, n3]) rfl ?_
      exact ⟨none, 0, none, 0, rfl, fun h => absurd rfl h, fun h => absurd rfl h, S', HW.tab, HW.gone⟩
    · have e1 : ((d : Int) % 3 == 1) = false := by simp; omega
      have e2 : ((d : Int) % 3 == 2) = false := by simp; omega
      have HE : Hid (a.act ⟨(d : Int), qw, ⟨kind, user, id, st, pr, ttl, A, c, us⟩, by_⟩ = a.do_ qw ⟨kind, user, id, st, pr, ttl, A, c, us⟩) := by show _ = _; unfold Mo.act; rw [if_neg (by show ¬ (d : Int) % 3 = 1; omega), if_neg (by show ¬ (d : Int) % 3 = 2; omega)]
      rw [HE.out]
      go_enter Tryz.func10, Tryz.ntmps10
      go_wp2_with fail
      generalize ((w.alloc (.cells #[.int .u8 (d : Int), .int .i64 qw, .int .i64 kind, .string user, .int .i64 id, .int .i64 st, .int .i64 pr, .int .u64 ttl, .slice A us.length c, .int .u64 by_] 39)).alloc (.cells #[.int .i64 0, .slice none 0 0, .slice none 0 0, .bool false] 43)) = w1 at *
      refine (do_ ⟨kind, user, id, st, pr, ttl, A, c, us⟩ H1.out HO.out hb hbw1 qw IN1.out).mono ?_
      generalize a.do_ qw ⟨kind, user, id, st, pr, ttl, A, c, us⟩ = pr2 at *
      rintro e w3 ⟨A1, c1, A2, c2, rfl, hs1, hs2, S', hT, hG⟩
      have l2 := HR1.out.lt
      have HS1 := Lib.hid hs1
      have HS2 := Lib.hid hs2
      clear hs1 hs2
      have HR3 := Lib.hid (hG.is HR1.out NR.out)
      have H3 := Lib.hid hT
      have G3 := Lib.hid (G1.out.trans hG)
      have N3 : ¬ S' (w.heap.size + 1) := fun hx => (hG.new _ hx).elim NR.out (fun h' => by have := HR1.out.lt; omega)
      clear hT hG
      have lr := HR3.out.lt
      have r0 := HR3.out.cell' (i := 0) rfl
      have r1 := HR3.out.cell' (i := 1) rfl
      have r2 := HR3.out.cell' (i := 2) rfl
      have r3 := HR3.out.cell' (i := 3) rfl
      have q0 := HR3.out.frozen 0
      have q1 := HR3.out.frozen 1
      have q2 := HR3.out.frozen 2
      have q3 := HR3.out.frozen 3
      go_wp2_with fail
      have HW := wrap HR3.out H3.out G3.out (Nat.le_succ _) N3 (.int .i64 pr2.2.err) (.slice A1 pr2.2.vals.length c1) (.slice A2 pr2.2.evs.length c2) (.bool pr2.2.lost)
      generalize (((w3.setCell ⟨w.heap.size + 1, 0, none⟩ (.int .i64 pr2.2.err)).setCell ⟨w.heap.size + 1, 1, none⟩ (.slice A1 pr2.2.vals.length c1)).setCell ⟨w.heap.size + 1, 2, none⟩ (.slice A2 pr2.2.evs.length c2)).setCell ⟨w.heap.size + 1, 3, none⟩ (.bool pr2.2.lost) = wz at *
      have n0 := HW.box.cell' (i := 0) rfl
      have n1 := HW.box.cell' (i := 1) rfl
      have n2 := HW.box.cell' (i := 2) rfl
      have n3 := HW.box.cell' (i := 3) rfl
      refine bodyPost_ret (v := .agg #[.int .i64 pr2.2.err, .slice A1 pr2.2.vals.length c1, .slice A2 pr2.2.evs.length c2, .bool pr2.2.lost]) (by simp [results, Tryz.results10, go_sem, n0, n1, n2, n3]) rfl ?_
      exact ⟨A1, c1, A2, c2, rfl, (HW.seq l2 HS1.out).from_ (by omega), (HW.seq l2 HS2.out).from_ (by omega), S', HW.tab, HW.gone⟩
end
end Mod
end Go.Proofs.YtohdlnefgieenaaGreat
/-
  What acts make of a table (layer 10), one behind the other: plain.
-/
namespace Go.Proofs.YtohdlnefgieenaaGreat
open Go.RowKit
namespace Mod
open Go.Law Feed Bk
@[go_sem] theorem run_time0 (a b c : Value) (w : World) : Sem.run Tryz.prog (Instr.field 50 (.agg #[a, b, c]) 0) w = .ok a w := by kernel_rfl
@[go_sem] theorem run_time1 (a b c : Value) (w : World) : Sem.run Tryz.prog (Instr.field 50 (.agg #[a, b, c]) 1) w = .ok b w := by kernel_rfl
@[go_sem] theorem run_time2 (a b c : Value) (w : World) : Sem.run Tryz.prog (Instr.field 50 (.agg #[a, b, c]) 2) w = .ok c w := by kernel_rfl
@[go_sem] theorem run_pres2 (a b c : Value) (w : World) : Sem.run Tryz.prog (Instr.field 57 (.agg #[a, b, c]) 2) w = .ok c w := by kernel_rfl
@[go_sem] theorem run_conf1 (w : World) : Sem.run Tryz.prog (Instr.field 24 small.val 1) w = .ok (.int .i64 2) w := by kernel_rfl
@[go_sem] theorem run_conf3 (w : World) : Sem.run Tryz.prog (Instr.field 24 small.val 3) w = .ok (.int .i64 4) w := by kernel_rfl
def Mo.run (a : Mo) (l : List AcM) : Mo := l.foldl (fun a q => (a.act q).1) a
theorem run_nil (a : Mo) : a.run [] = a := rfl
theorem run_snoc (a : Mo) (l : List AcM) (q : AcM) : a.run (l ++ [q]) = ((a.run l).act q).1 := by simp [Mo.run]
theorem run_take (a : Mo) {l : List AcM} {j : Nat} (h : j < l.length) : a.run (l.take (j + 1)) = ((a.run (l.take j)).act l[j]).1 := by rw [List.take_succ_eq_append_getElem h, run_snoc]
theorem run_ok {a : Mo} {b : Nat} (h : a.Ok b) : ∀ {l : List AcM}, (∀ q ∈ l, Door.U q.by_) → (a.run l).Ok (b + l.length) := fun {l} => by
  induction l generalizing a b with
  | nil => intro _; exact h
  | cons q r ih =>
    intro hq
    have h1 := ih (act_ok h q (hq q (by simp))) (fun x hx => hq x (by simp [hx]))
    have e : b + 1 + r.length = b + (q :: r).length := by simp; omega
    rw [e] at h1
    exact h1
theorem run_ok_take {a : Mo} (h : a.Ok 0) {l : List AcM} (hq : ∀ q ∈ l, Door.U q.by_) (hl : l.length ≤ 120) (j : Nat) : (a.run (l.take j)).Ok 120 :=
  (run_ok h (l := l.take j) (fun q hx => hq q (List.mem_of_mem_take hx))).more (by simp; omega)
theorem sat_one {x : Int} (h : x < 18446744073709551615) : Door.sat x 1 = x + 1 := by unfold Door.sat Door.top; rw [if_pos (by omega)]
/-! ### What stays, and what is counted -/
theorem sweep_as (a : Mo) (s : Int) : (a.sweep s).most = a.most ∧ (a.sweep s).lim = a.lim ∧ (a.sweep s).n = a.n ∧ (a.sweep s).room = a.room ∧ (a.sweep s).now = a.now ∧ (a.sweep s).closed = a.closed := by
  unfold Mo.sweep; split <;> exact ⟨rfl, rfl, rfl, rfl, rfl, rfl⟩
theorem write_as (a : Mo) (x : OpV) : (a.write x).1.most = a.most ∧ (a.write x).1.lim = a.lim ∧ (a.write x).1.n = a.n ∧ (a.write x).1.room = a.room ∧ (a.write x).1.now = a.now ∧ (a.write x).1.closed = a.closed := by
  unfold Mo.write; split <;> exact ⟨rfl, rfl, rfl, rfl, rfl, rfl⟩
theorem watch_as (a : Mo) (who : Nat) (u : ByteArray) : (a.watch who u).1.most = a.most ∧ (a.watch who u).1.lim = a.lim ∧ (a.watch who u).1.n = a.n ∧ (a.watch who u).1.room = a.room ∧ (a.watch who u).1.now = a.now ∧ (a.watch who u).1.closed = a.closed := by
  unfold Mo.watch; split <;> exact ⟨rfl, rfl, rfl, rfl, rfl, rfl⟩
theorem ask_as (a : Mo) (who : Nat) (x : OpW) : (a.ask who x).1.most = a.most ∧ (a.ask who x).1.lim = a.lim ∧ (a.ask who x).1.n = a.n ∧ (a.ask who x).1.room = a.room ∧ (a.ask who x).1.now = a.now := by
  unfold Mo.ask
  split
  · have h := write_as a x.v; exact ⟨h.1, h.2.1, h.2.2.1, h.2.2.2.1, h.2.2.2.2.1⟩
  · split
    · exact ⟨rfl, rfl, rfl, rfl, rfl⟩
    · split
      · exact ⟨rfl, rfl, rfl, rfl, rfl⟩
      · split
        · exact ⟨rfl, rfl, rfl, rfl, rfl⟩
        · split
          · exact ⟨rfl, rfl, rfl, rfl, rfl⟩
          · split
            · have h := watch_as a who x.user; exact ⟨h.1, h.2.1, h.2.2.1, h.2.2.2.1, h.2.2.2.2.1⟩
            · split
              · exact ⟨rfl, rfl, rfl, rfl, rfl⟩
              · exact ⟨rfl, rfl, rfl, rfl, rfl⟩
theorem do_as (a : Mo) (who : Int) (x : OpW) : (a.do_ who x).1.most = a.most ∧ (a.do_ who x).1.lim = a.lim ∧ (a.do_ who x).1.n = a.n ∧ (a.do_ who x).1.room = a.room ∧ (a.do_ who x).1.now = a.now := by
  unfold Mo.do_
  split
  · exact ask_as a _ x
  · exact ⟨rfl, rfl, rfl, rfl, rfl⟩
theorem act_as (a : Mo) (q : AcM) : (a.act q).1.most = a.most ∧ (a.act q).1.lim = a.lim ∧ (a.act q).1.n = a.n ∧ (a.act q).1.room = a.room := by
  unfold Mo.act
  split
  · exact ⟨rfl, rfl, rfl, rfl⟩
  · split
    · have h := sweep_as a (q.by_ % 9); exact ⟨h.1, h.2.1, h.2.2.1, h.2.2.2.1⟩
    · have h := do_as a q.who q.op; exact ⟨h.1, h.2.1, h.2.2.1, h.2.2.2.1⟩
theorem run_as (l : List AcM) : ∀ a : Mo, (a.run l).most = a.most ∧ (a.run l).lim = a.lim ∧ (a.run l).n = a.n ∧ (a.run l).room = a.room := by
  induction l with
  | nil => intro a; exact ⟨rfl, rfl, rfl, rfl⟩
  | cons q r ih =>
    intro a
    have h1 := ih (a.act q).1
    have h2 := act_as a q
    exact ⟨h1.1.trans h2.1, h1.2.1.trans h2.2.1, h1.2.2.1.trans h2.2.2.1, h1.2.2.2.trans h2.2.2.2⟩
theorem act_now (a : Mo) (q : AcM) : (a.act q).1.now = if q.do_ % 3 = 1 then Door.sat a.now q.by_ else a.now := by
  unfold Mo.act
  split
  · rfl
  · split
    · exact (sweep_as a _).2.2.2.2.1
    · exact (do_as a _ _).2.2.2.2
/-- is this act counted? -/
def counts (n : Nat) (q : AcM) : Bool :=
  if q.do_ % 3 = 1 then false else if q.do_ % 3 = 2 then decide (0 ≤ q.by_ % 9 ∧ q.by_ % 9 < (n : Int))
  else decide (goodB q.op = true ∧ (0 ≤ q.who ∧ q.who < 8) ∧ (q.op.kind = 1 ∨ q.op.kind = 2 ∨ q.op.kind = 3))
theorem write_seq (a : Mo) (x : OpV) : (a.write x).1.seq = Door.sat a.seq 1 := by unfold Mo.write; split <;> rfl
theorem watch_seq (a : Mo) (who : Nat) (u : ByteArray) : (a.watch who u).1.seq = a.seq := by unfold Mo.watch; split <;> rfl
theorem act_seq (a : Mo) (q : AcM) : (a.act q).1.seq = if counts a.n q then Door.sat a.seq 1 else a.seq := by
  unfold Mo.act counts
  split
  · rfl
  · split
    · unfold Mo.sweep
      by_cases h : 0 ≤ q.by_ % 9 ∧ q.by_ % 9 < (a.n : Int)
      · rw [if_pos h, if_pos (decide_eq_true h)]; rfl
      · rw [if_neg h, if_neg (by simpa using h)]
    · unfold Mo.do_
      by_cases h : goodB q.op = true ∧ (0 ≤ q.who ∧ q.who < 8)
      · rw [if_pos h]
        unfold Mo.ask
        by_cases h3 : q.op.kind = 1 ∨ q.op.kind = 2 ∨ q.op.kind = 3
        · rw [if_pos h3, if_pos (decide_eq_true ⟨h.1, h.2, h3⟩)]; exact write_seq a _
        · rw [if_neg h3, decide_eq_false (p := goodB q.op = true ∧ (0 ≤ q.who ∧ q.who < 8) ∧ (q.op.kind = 1 ∨ q.op.kind = 2 ∨ q.op.kind = 3)) (fun hd => h3 hd.2.2), if_neg Bool.false_ne_true]
          split
          · rfl
          · split
            · rfl
            · split
              · rfl
              · split
                · rfl
                · split
                  · exact watch_seq a _ _
                  · split <;> rfl
      · rw [if_neg h, decide_eq_false (p := goodB q.op = true ∧ (0 ≤ q.who ∧ q.who < 8) ∧ (q.op.kind = 1 ∨ q.op.kind = 2 ∨ q.op.kind = 3)) (fun hd => h ⟨hd.1, hd.2.1⟩), if_neg Bool.false_ne_true]
end Mod
end Go.Proofs.YtohdlnefgieenaaGreat
