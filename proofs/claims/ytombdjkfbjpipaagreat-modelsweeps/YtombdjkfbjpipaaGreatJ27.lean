/-
  A Query and a Batch (layer 10) leave the table's blocks as they were: what was answered before lies as it lay.
-/
import Derived.Test.YtombdjkfbjpipaaGreatJ26
import Derived.Test.YtombdjkfbjpipaaGreatJ18
import Derived.Deep.RegionHeld3
namespace Go.Proofs.YtombdjkfbjpipaaGreat
open Go.RowKit Go.Shelf
attribute [local go_sem] Oper.semAt_some
namespace Mod
open Go.Law Feed Bk
/-- behind an op that only looks -/
def PolledK (w : World) (base : Nat) (S : Nat → Prop) (m : Nat) (a' : Mo) (r : Rep) (e : Ending) (w' : World) : Prop :=
  ∃ A c A2 c2, e = .returned (.agg #[.int .i64 r.err, .slice A r.vals.length c, .slice A2 r.evs.length c2, .bool r.lost]) ∧ Seq w' w.heap.size w'.heap.size A (flatPr r.vals) ∧ Seq w' w.heap.size w'.heap.size A2 (flatE r.evs) ∧ Tab w' base S m a' ∧ Gone w S w' S
section
variable {w w' : World} {base m t c b : Nat} {S S' : Nat → Prop} {a : Mo}
set_option maxRecDepth 100000 in
set_option maxHeartbeats 2000000 in
theorem do4k (user : ByteArray) (id st pr ttl : Int) (A : Option Addr) (c : Nat) (us : List ByteArray) (h : Tab w base S m a) (ho : a.Ok b) (hb : b ≤ 380) (hbw : base ≤ w.heap.size) {who : Nat} (hw : who < 8) (hin : OpW.In ⟨4, user, id, st, pr, ttl, A, c, us⟩ w) (hg : goodB ⟨4, user, id, st, pr, ttl, A, c, us⟩ = true) (hcl : a.closed = false) :
    Calls Tryz.prog 33 #[.pointer (some ⟨m, 0, none⟩), .int .i64 (who : Int), .agg #[.int .i64 4, .string user, .int .i64 id, .int .i64 st, .int .i64 pr, .int .u64 ttl, .slice A us.length c]] w (PolledK w base S m (a.ask who ⟨4, user, id, st, pr, ttl, A, c, us⟩).1 (a.ask who ⟨4, user, id, st, pr, ttl, A, c, us⟩).2) := by
  rw [show a.ask who ⟨4, user, id, st, pr, ttl, A, c, us⟩ = (a, ⟨0, [user].map a.pres, [], false⟩) from by simp [Mo.ask, hcl]]
  have hw2 : (decide ((0 : Int) ≤ (who : Int)) && decide ((who : Int) ≤ 7)) = true := by simp; omega
  have bb := ((Below.refl w.heap.size w).alloc (Nat.le_refl _) (.cells #[.int .i64 4, .string user, .int .i64 id, .int .i64 st, .int .i64 pr, .int .u64 ttl, .slice A us.length c] 37)).alloc (by simp) (.cells #[.int .i64 0, .slice none 0 0, .slice none 0 0, .bool false] 43)
  have HX1 : Hid (Is ((w.alloc (.cells #[.int .i64 4, .string user, .int .i64 id, .int .i64 st, .int .i64 pr, .int .u64 ttl, .slice A us.length c] 37)).alloc (.cells #[.int .i64 0, .slice none 0 0, .slice none 0 0, .bool false] 43)) w.heap.size 37 #[.int .i64 4, .string user, .int .i64 id, .int .i64 st, .int .i64 pr, .int .u64 ttl, .slice A us.length c]) := (Is.new w _ _ rfl).alloc _
  have HR1 : Hid (Is ((w.alloc (.cells #[.int .i64 4, .string user, .int .i64 id, .int .i64 st, .int .i64 pr, .int .u64 ttl, .slice A us.length c] 37)).alloc (.cells #[.int .i64 0, .slice none 0 0, .slice none 0 0, .bool false] 43)) (w.heap.size + 1) 43 #[.int .i64 0, .slice none 0 0, .slice none 0 0, .bool false]) := Is.new _ _ _ (by simp)
  have H1 := Lib.hid (h.below bb)
  have G1 : Hid (Gone w S _ S) := Gone.of_below bb
  have IN1 := Lib.hid (hin.below bb)
  have hok := Lib.hid h.ok
  have HO := Lib.hid ho
  have HU := Lib.hid hin
  have hbw1 := Nat.le_trans hbw bb.size
  have NX : Hid (¬ S w.heap.size) := fun hx => by have := (hok.out _ hx).2; omega
  have NR : Hid (¬ S (w.heap.size + 1)) := fun hx => by have := (hok.out _ hx).2; omega
  clear bb h ho hin
  go_enter Tryz.func33, Tryz.ntmps33
  go_wp2_with fail
  generalize ((w.alloc (.cells #[.int .i64 4, .string user, .int .i64 id, .int .i64 st, .int .i64 pr, .int .u64 ttl, .slice A us.length c] 37)).alloc (.cells #[.int .i64 0, .slice none 0 0, .slice none 0 0, .bool false] 43)) = w1 at *
  refine (bad ⟨4, user, id, st, pr, ttl, A, c, us⟩ IN1.out (r := false) (by rw [hg]; rfl)).mono ?_
  rintro e w2 ⟨rfl, b2⟩
  have HX2 := Lib.hid (HX1.out.below b2 HX1.out.lt)
  have HR2 := Lib.hid (HR1.out.below b2 HR1.out.lt)
  have H2 := Lib.hid (H1.out.below b2)
  have G2 := Lib.hid (G1.out.trans (Gone.of_below b2))
  have IN2 := Lib.hid (IN1.out.below b2)
  have hbw2 := Nat.le_trans hbw1 b2.size
  clear b2 HX1 HR1 H1 G1 IN1
  go_wp2_with fail
  refine (within _ _ _ true hw2 _).mono ?_
  rintro e w2' ⟨rfl, rfl⟩
  have x0 : w2.cell? ⟨w.heap.size, 0, none⟩ = some (.int .i64 4) := HX2.out.cell' rfl
  have x1 : w2.cell? ⟨w.heap.size, 1, none⟩ = some (.string user) := HX2.out.cell' rfl
  have x2 : w2.cell? ⟨w.heap.size, 2, none⟩ = some (.int .i64 id) := HX2.out.cell' rfl
  have x3 : w2.cell? ⟨w.heap.size, 3, none⟩ = some (.int .i64 st) := HX2.out.cell' rfl
  have x4 : w2.cell? ⟨w.heap.size, 4, none⟩ = some (.int .i64 pr) := HX2.out.cell' rfl
  have x5 : w2.cell? ⟨w.heap.size, 5, none⟩ = some (.int .u64 ttl) := HX2.out.cell' rfl
  have x6 : w2.cell? ⟨w.heap.size, 6, none⟩ = some (.slice A us.length c) := HX2.out.cell' rfl
  have lx := HX2.out.lt
  obtain ⟨t, c', arr, p, g, Sk, hV⟩ := H2.out
  have HV := Lib.hid hV
  have d4 : w2.cell? ⟨m, 4, none⟩ = some (.bool a.closed) := hV.box.cell' rfl
  have lm := hV.box.lt
  rw [hcl] at d4
  clear hV
  go_wp2_with fail
  refine (users4 user id st pr ttl (.slice A us.length c) w2).mono ?_
  rintro e w3 ⟨A3, c3, rfl, hs3, b3⟩
  have H3 := Lib.hid (H2.out.below b3)
  have HR3 := Lib.hid (HR2.out.below b3 HR2.out.lt)
  have G3 := Lib.hid (G2.out.trans (Gone.of_below b3))
  have HP := Lib.hid (presences H3.out HO.out hb [user] A3 c3 (hs3.from_ (Nat.zero_le _)) (by simp) (fun u hu => by obtain rfl := List.mem_singleton.1 hu; exact HU.out.user))
  have l3 : w.heap.size + 1 < w3.heap.size := Nat.lt_of_lt_of_le HR2.out.lt b3.size
  generalize [user].map a.pres = vs at *
  clear hs3 b3 HX2 HR2 H2 G2 HV x0 x1 x2 x3 x4 x5 x6 lx d4 lm
  go_wp2_with fail
  refine HP.out.mono ?_
  rintro e w4 ⟨A4, c4, rfl, hs4, b4⟩
  have H4 := Lib.hid (H3.out.below b4)
  have HR4 := Lib.hid (HR3.out.below b4 HR3.out.lt)
  have G4 := Lib.hid (G3.out.trans (Gone.of_below b4))
  have HS4 := Lib.hid hs4
  clear hs4 b4 H3 HR3 G3 HP
  have lr := HR4.out.lt
  have r0 := HR4.out.cell' (i := 0) rfl
  have r1 := HR4.out.cell' (i := 1) rfl
  have r2 := HR4.out.cell' (i := 2) rfl
  have r3 := HR4.out.cell' (i := 3) rfl
  have q0 := HR4.out.frozen 0
  have q1 := HR4.out.frozen 1
  have q2 := HR4.out.frozen 2
  have q3 := HR4.out.frozen 3
  go_wp2_with fail
  have HW := wrap HR4.out H4.out G4.out (Nat.le_succ _) NR.out (.int .i64 0) (.slice A4 vs.length c4) (.slice none 0 0) (.bool false)
  generalize (((w4.setCell ⟨w.heap.size + 1, 0, none⟩ (.int .i64 0)).setCell ⟨w.heap.size + 1, 1, none⟩ (.slice A4 vs.length c4)).setCell ⟨w.heap.size + 1, 2, none⟩ (.slice none 0 0)).setCell ⟨w.heap.size + 1, 3, none⟩ (.bool false) = wz at *
  have n0 := HW.box.cell' (i := 0) rfl
  have n1 := HW.box.cell' (i := 1) rfl
  have n2 := HW.box.cell' (i := 2) rfl
  have n3 := HW.box.cell' (i := 3) rfl
  refine bodyPost_ret (v := .agg #[.int .i64 0, .slice A4 vs.length c4, .slice none 0 0, .bool false]) (by simp [results, Tryz.results33, go_sem, n0, n1, n2, n3]) rfl ?_
  exact ⟨A4, c4, none, 0, rfl, (HW.seq l3 HS4.out).from_ (by omega), fun h => absurd rfl h, HW.tab, HW.gone⟩
set_option maxRecDepth 100000 in
set_option maxHeartbeats 2000000 in
theorem do5k (user : ByteArray) (id st pr ttl : Int) (A : Option Addr) (c : Nat) (us : List ByteArray) (h : Tab w base S m a) (ho : a.Ok b) (hb : b ≤ 380) (hbw : base ≤ w.heap.size) {who : Nat} (hw : who < 8) (hin : OpW.In ⟨5, user, id, st, pr, ttl, A, c, us⟩ w) (hg : goodB ⟨5, user, id, st, pr, ttl, A, c, us⟩ = true) (hcl : a.closed = false) :
    Calls Tryz.prog 33 #[.pointer (some ⟨m, 0, none⟩), .int .i64 (who : Int), .agg #[.int .i64 5, .string user, .int .i64 id, .int .i64 st, .int .i64 pr, .int .u64 ttl, .slice A us.length c]] w (PolledK w base S m (a.ask who ⟨5, user, id, st, pr, ttl, A, c, us⟩).1 (a.ask who ⟨5, user, id, st, pr, ttl, A, c, us⟩).2) := by
  rw [show a.ask who ⟨5, user, id, st, pr, ttl, A, c, us⟩ = (a, ⟨0, us.map a.pres, [], false⟩) from by simp [Mo.ask, hcl]]
  have hw2 : (decide ((0 : Int) ≤ (who : Int)) && decide ((who : Int) ≤ 7)) = true := by simp; omega
  have bb := ((Below.refl w.heap.size w).alloc (Nat.le_refl _) (.cells #[.int .i64 5, .string user, .int .i64 id, .int .i64 st, .int .i64 pr, .int .u64 ttl, .slice A us.length c] 37)).alloc (by simp) (.cells #[.int .i64 0, .slice none 0 0, .slice none 0 0, .bool false] 43)
  have HX1 : Hid (Is ((w.alloc (.cells #[.int .i64 5, .string user, .int .i64 id, .int .i64 st, .int .i64 pr, .int .u64 ttl, .slice A us.length c] 37)).alloc (.cells #[.int .i64 0, .slice none 0 0, .slice none 0 0, .bool false] 43)) w.heap.size 37 #[.int .i64 5, .string user, .int .i64 id, .int .i64 st, .int .i64 pr, .int .u64 ttl, .slice A us.length c]) := (Is.new w _ _ rfl).alloc _
  have HR1 : Hid (Is ((w.alloc (.cells #[.int .i64 5, .string user, .int .i64 id, .int .i64 st, .int .i64 pr, .int .u64 ttl, .slice A us.length c] 37)).alloc (.cells #[.int .i64 0, .slice none 0 0, .slice none 0 0, .bool false] 43)) (w.heap.size + 1) 43 #[.int .i64 0, .slice none 0 0, .slice none 0 0, .bool false]) := Is.new _ _ _ (by simp)
  have H1 := Lib.hid (h.below bb)
  have G1 : Hid (Gone w S _ S) := Gone.of_below bb
  have IN1 := Lib.hid (hin.below bb)
  have hok := Lib.hid h.ok
  have HO := Lib.hid ho
  have HU := Lib.hid hin
  have hbw1 := Nat.le_trans hbw bb.size
  have NX : Hid (¬ S w.heap.size) := fun hx => by have := (hok.out _ hx).2; omega
  have NR : Hid (¬ S (w.heap.size + 1)) := fun hx => by have := (hok.out _ hx).2; omega
  clear bb h ho hin
  go_enter Tryz.func33, Tryz.ntmps33
  go_wp2_with fail
  generalize ((w.alloc (.cells #[.int .i64 5, .string user, .int .i64 id, .int .i64 st, .int .i64 pr, .int .u64 ttl, .slice A us.length c] 37)).alloc (.cells #[.int .i64 0, .slice none 0 0, .slice none 0 0, .bool false] 43)) = w1 at *
  refine (bad ⟨5, user, id, st, pr, ttl, A, c, us⟩ IN1.out (r := false) (by rw [hg]; rfl)).mono ?_
  rintro e w2 ⟨rfl, b2⟩
  have HX2 := Lib.hid (HX1.out.below b2 HX1.out.lt)
  have HR2 := Lib.hid (HR1.out.below b2 HR1.out.lt)
  have H2 := Lib.hid (H1.out.below b2)
  have G2 := Lib.hid (G1.out.trans (Gone.of_below b2))
  have IN2 := Lib.hid (IN1.out.below b2)
  have hbw2 := Nat.le_trans hbw1 b2.size
  clear b2 HX1 HR1 H1 G1 IN1
  go_wp2_with fail
  refine (within _ _ _ true hw2 _).mono ?_
  rintro e w2' ⟨rfl, rfl⟩
  have x0 : w2.cell? ⟨w.heap.size, 0, none⟩ = some (.int .i64 5) := HX2.out.cell' rfl
  have x1 : w2.cell? ⟨w.heap.size, 1, none⟩ = some (.string user) := HX2.out.cell' rfl
  have x2 : w2.cell? ⟨w.heap.size, 2, none⟩ = some (.int .i64 id) := HX2.out.cell' rfl
  have x3 : w2.cell? ⟨w.heap.size, 3, none⟩ = some (.int .i64 st) := HX2.out.cell' rfl
  have x4 : w2.cell? ⟨w.heap.size, 4, none⟩ = some (.int .i64 pr) := HX2.out.cell' rfl
  have x5 : w2.cell? ⟨w.heap.size, 5, none⟩ = some (.int .u64 ttl) := HX2.out.cell' rfl
  have x6 : w2.cell? ⟨w.heap.size, 6, none⟩ = some (.slice A us.length c) := HX2.out.cell' rfl
  have lx := HX2.out.lt
  have hl8 : us.length ≤ 8 := by have h' := hg; simp [goodB] at h'; omega
  obtain ⟨t, c', arr, p, g, Sk, hV⟩ := H2.out
  have HV := Lib.hid hV
  have d4 : w2.cell? ⟨m, 4, none⟩ = some (.bool a.closed) := hV.box.cell' rfl
  have lm := hV.box.lt
  rw [hcl] at d4
  clear hV
  go_wp2_with fail
  refine (users5 user id st pr ttl us A c w2 IN2.out.us (by omega)).mono ?_
  rintro e w3 ⟨A3, c3, rfl, hs3, b3⟩
  have H3 := Lib.hid (H2.out.below b3)
  have HR3 := Lib.hid (HR2.out.below b3 HR2.out.lt)
  have G3 := Lib.hid (G2.out.trans (Gone.of_below b3))
  have HP := Lib.hid (presences H3.out HO.out hb us A3 c3 (hs3.from_ (Nat.zero_le _)) (by omega) (fun u hu => HU.out.size u hu))
  have l3 : w.heap.size + 1 < w3.heap.size := Nat.lt_of_lt_of_le HR2.out.lt b3.size
  generalize us.map a.pres = vs at *
  clear hs3 b3 HX2 HR2 H2 G2 HV x0 x1 x2 x3 x4 x5 x6 lx d4 lm
  go_wp2_with fail
  refine HP.out.mono ?_
  rintro e w4 ⟨A4, c4, rfl, hs4, b4⟩
  have H4 := Lib.hid (H3.out.below b4)
  have HR4 := Lib.hid (HR3.out.below b4 HR3.out.lt)
  have G4 := Lib.hid (G3.out.trans (Gone.of_below b4))
  have HS4 := Lib.hid hs4
  clear hs4 b4 H3 HR3 G3 HP
  have lr := HR4.out.lt
  have r0 := HR4.out.cell' (i := 0) rfl
  have r1 := HR4.out.cell' (i := 1) rfl
  have r2 := HR4.out.cell' (i := 2) rfl
  have r3 := HR4.out.cell' (i := 3) rfl
  have q0 := HR4.out.frozen 0
  have q1 := HR4.out.frozen 1
  have q2 := HR4.out.frozen 2
  have q3 := HR4.out.frozen 3
  go_wp2_with fail
  have HW := wrap HR4.out H4.out G4.out (Nat.le_succ _) NR.out (.int .i64 0) (.slice A4 vs.length c4) (.slice none 0 0) (.bool false)
  generalize (((w4.setCell ⟨w.heap.size + 1, 0, none⟩ (.int .i64 0)).setCell ⟨w.heap.size + 1, 1, none⟩ (.slice A4 vs.length c4)).setCell ⟨w.heap.size + 1, 2, none⟩ (.slice none 0 0)).setCell ⟨w.heap.size + 1, 3, none⟩ (.bool false) = wz at *
  have n0 := HW.box.cell' (i := 0) rfl
  have n1 := HW.box.cell' (i := 1) rfl
  have n2 := HW.box.cell' (i := 2) rfl
  have n3 := HW.box.cell' (i := 3) rfl
  refine bodyPost_ret (v := .agg #[.int .i64 0, .slice A4 vs.length c4, .slice none 0 0, .bool false]) (by simp [results, Tryz.results33, go_sem, n0, n1, n2, n3]) rfl ?_
  exact ⟨A4, c4, none, 0, rfl, (HW.seq l3 HS4.out).from_ (by omega), fun h => absurd rfl h, HW.tab, HW.gone⟩
theorem ask4 {who : Nat} (hcl : a.closed = false) (user : ByteArray) (id st pr ttl : Int) (A : Option Addr) (c : Nat) (us : List ByteArray) : a.ask who ⟨4, user, id, st, pr, ttl, A, c, us⟩ = (a, ⟨0, [a.pres user], [], false⟩) := by
  unfold Mo.ask
  simp [hcl]
theorem ask5 {who : Nat} (hcl : a.closed = false) (user : ByteArray) (id st pr ttl : Int) (A : Option Addr) (c : Nat) (us : List ByteArray) : a.ask who ⟨5, user, id, st, pr, ttl, A, c, us⟩ = (a, ⟨0, us.map a.pres, [], false⟩) := by
  unfold Mo.ask
  simp [hcl]
end
end Mod
end Go.Proofs.YtombdjkfbjpipaaGreat
/-
  What the reference's (layer 9) Same comes to at lists that are the same.
-/
namespace Go.Proofs.YtombdjkfbjpipaaGreat
open Go.RowKit Go.Shelf
attribute [local go_sem] Oper.semAt_some
namespace Feed
open Go.Law
set_option maxRecDepth 100000 in
set_option maxHeartbeats 4000000 in
theorem refSame (zs : List Ev) (A B : Option Addr) (c d : Nat) (w : World) (ha : Seq w 0 w.heap.size A (flatE zs)) (hb : Seq w 0 w.heap.size B (flatE zs)) (hl : zs.length ≤ 1000) :
    Calls Tryz.prog 49 #[.slice A zs.length c, .slice B zs.length d] w fun e w' => e = .returned (.bool true) ∧ Below w.heap.size w w' := by
  have HA := Lib.hid ha
  have HB := Lib.hid hb
  clear ha hb
  have d0 : ((zs.length : Int) != (zs.length : Int)) = false := by simp
  go_enter Tryz.func49, Tryz.ntmps49
  go_wp2_with fail
  go_loopw [5] (fun i wr => ∃ j : Nat, j ≤ zs.length ∧ i = .int .i64 j ∧ Below w.heap.size w wr) (fun i _ => zs.length - (intOf i).toNat)
  case atStart => exact ⟨0, Nat.zero_le _, rfl, Below.refl _ _⟩
  case round =>
    obtain ⟨j, hj, rfl, hB⟩ := hrel
    have HD := Lib.hid hB
    have sz := hB.size
    clear hB
    by_cases hlt : j < zs.length
    · have d1 : decide ((j : Int) < (zs.length : Int)) = true := by simp; omega
      obtain ⟨ga, oa, rfl, _, hga, p0, p1, p2, p3, p4, p5, p6, p7⟩ := (HA.out.below HD.out).ev hlt
      obtain ⟨gb, ob, rfl, _, hgb, q0, q1, q2, q3, q4, q5, q6, q7⟩ := (HB.out.below HD.out).ev hlt
      generalize zs[j] = x at *
      obtain ⟨x0, x1, x2, x3, x4, x5, x6, x7⟩ := x
      simp only at p0 p1 p2 p3 p4 p5 p6 p7 q0 q1 q2 q3 q4 q5 q6 q7
      go_wp2_with fail
      go_quiet (fail)
      go_wp2_with fail
      go_roundw
      case rel => exact ⟨j + 1, by omega, by go_num, Law.below_drewN HD.out nq⟩
      case measure => simp [intOf]; omega
    · have d1 : decide ((j : Int) < (zs.length : Int)) = false := by simp; omega
      go_wp2_with fail
      go_ret
      exact ⟨rfl, HD.out⟩
end Feed
end Go.Proofs.YtombdjkfbjpipaaGreat
/-
  Two replies that are alike (layer 10): the reference's Same answers true.
-/
namespace Go.Proofs.YtombdjkfbjpipaaGreat
open Go.RowKit Go.Shelf
attribute [local go_sem] Oper.semAt_some
namespace Mod
open Go.Law Feed Bk
/-- a reply, as a value -/
abbrev Rep.val (r : Rep) (A : Option Addr) (c : Nat) (A2 : Option Addr) (c2 : Nat) : Value := .agg #[.int .i64 r.err, .slice A r.vals.length c, .slice A2 r.evs.length c2, .bool r.lost]
set_option maxRecDepth 100000 in
set_option maxHeartbeats 2000000 in
theorem refSame10 (r : Rep) (A B A2 B2 : Option Addr) (c d c2 d2 : Nat) (w : World) (hv : Seq w 0 w.heap.size A (flatPr r.vals)) (hv' : Seq w 0 w.heap.size B (flatPr r.vals)) (he : Seq w 0 w.heap.size A2 (flatE r.evs)) (he' : Seq w 0 w.heap.size B2 (flatE r.evs)) (hl : r.vals.length ≤ 1000) (hl2 : r.evs.length ≤ 1000) :
    Calls Tryz.prog 21 #[r.val A c A2 c2, r.val B d B2 d2] w fun e w' => e = .returned (.bool true) ∧ Below w.heap.size w w' := by
  obtain ⟨er, vs, es, lo⟩ := r
  simp only at hv hv' he he' hl hl2
  have b1 := ((Below.refl w.heap.size w).alloc (Nat.le_refl _) (.cells #[.int .i64 er, .slice A vs.length c, .slice A2 es.length c2, .bool lo] 43)).alloc (by simp) (.cells #[.int .i64 er, .slice B vs.length d, .slice B2 es.length d2, .bool lo] 43)
  have HX : Hid (Is ((w.alloc (.cells #[.int .i64 er, .slice A vs.length c, .slice A2 es.length c2, .bool lo] 43)).alloc (.cells #[.int .i64 er, .slice B vs.length d, .slice B2 es.length d2, .bool lo] 43)) w.heap.size 43 #[.int .i64 er, .slice A vs.length c, .slice A2 es.length c2, .bool lo]) := (Is.new w _ _ rfl).alloc _
  have HY : Hid (Is ((w.alloc (.cells #[.int .i64 er, .slice A vs.length c, .slice A2 es.length c2, .bool lo] 43)).alloc (.cells #[.int .i64 er, .slice B vs.length d, .slice B2 es.length d2, .bool lo] 43)) (w.heap.size + 1) 43 #[.int .i64 er, .slice B vs.length d, .slice B2 es.length d2, .bool lo]) := Is.new _ _ _ (by simp)
  have HV := Lib.hid (hv.below b1)
  have HW := Lib.hid (hv'.below b1)
  have HE := Lib.hid ((he.below b1).more b1.size)
  have HF := Lib.hid ((he'.below b1).more b1.size)
  have HB := Lib.hid b1
  clear hv hv' he he' b1
  show Calls _ _ #[.agg #[.int .i64 er, .slice A vs.length c, .slice A2 es.length c2, .bool lo], .agg #[.int .i64 er, .slice B vs.length d, .slice B2 es.length d2, .bool lo]] _ _
  go_enter Tryz.func21, Tryz.ntmps21
  go_wp2_with fail
  generalize ((w.alloc (.cells #[.int .i64 er, .slice A vs.length c, .slice A2 es.length c2, .bool lo] 43)).alloc (.cells #[.int .i64 er, .slice B vs.length d, .slice B2 es.length d2, .bool lo] 43)) = w1 at *
  refine (refSame es A2 B2 c2 d2 w1 HE.out HF.out hl2).mono ?_
  rintro e w2 ⟨rfl, b2⟩
  have HX2 := Lib.hid (HX.out.below b2 HX.out.lt)
  have HY2 := Lib.hid (HY.out.below b2 HY.out.lt)
  have sz1 := HB.out.size
  have HB2 := Lib.hid (HB.out.trans (b2.mono sz1))
  have HV2 := Lib.hid (HV.out.below (b2.mono sz1))
  have HW2 := Lib.hid (HW.out.below (b2.mono sz1))
  have sz2 := b2.size
  clear b2 HX HY HB HV HW HE HF
  go_wp2_with fail
  go_loopw [5] (fun vi wr => ∃ j : Nat, j ≤ vs.length ∧ vi = .int .i64 j ∧ Drawn w2 wr) (fun vi _ => vs.length - (intOf vi).toNat)
  case atStart => exact ⟨0, Nat.zero_le _, rfl, Drawn.refl w2⟩
  case round =>
    obtain ⟨j, hj, rfl, q, rfl⟩ := hrel
    have x1 : w2.cell? ⟨w.heap.size, 1, none⟩ = some (.slice A vs.length c) := HX2.out.cell' rfl
    have y1 : w2.cell? ⟨w.heap.size + 1, 1, none⟩ = some (.slice B vs.length d) := HY2.out.cell' rfl
    have lx := HX2.out.lt
    have ly := HY2.out.lt
    by_cases hlt : j < vs.length
    · have d1 : decide ((j : Int) < (vs.length : Int)) = true := by simp; omega
      obtain ⟨b, o, hA, _, hb, hc⟩ := Seq.row (cells := cellsPr) (fun _ => rfl) (by decide : 0 < 3) HV2.out hlt
      obtain ⟨b', o', hB, _, hb', hc'⟩ := Seq.row (cells := cellsPr) (fun _ => rfl) (by decide : 0 < 3) HW2.out hlt
      subst hA hB
      generalize vs[j] = p at hc hc'
      obtain ⟨p0, p1, p2⟩ := p
      have c0 : w2.cell? ⟨b, o + j * 3, none⟩ = some (.int .i64 p0) := by simpa using hc 0 _ rfl
      have c1 : w2.cell? ⟨b, o + j * 3 + 1, none⟩ = some (.int .i64 p1) := hc 1 _ rfl
      have c2 : w2.cell? ⟨b, o + j * 3 + 2, none⟩ = some (.int .i64 p2) := hc 2 _ rfl
      have e0 : w2.cell? ⟨b', o' + j * 3, none⟩ = some (.int .i64 p0) := by simpa using hc' 0 _ rfl
      have e1 : w2.cell? ⟨b', o' + j * 3 + 1, none⟩ = some (.int .i64 p1) := hc' 1 _ rfl
      have e2 : w2.cell? ⟨b', o' + j * 3 + 2, none⟩ = some (.int .i64 p2) := hc' 2 _ rfl
      have lb : b < w2.heap.size := by omega
      have lb' : b' < w2.heap.size := by omega
      clear hc hc'
      go_wp2_with fail
      go_quiet (fail)
      go_wp2_with fail
      go_roundw
      case rel => exact ⟨j + 1, by omega, by go_num, ⟨_, rfl⟩⟩
      case measure => simp [intOf]; omega
    · have d1 : decide ((j : Int) < (vs.length : Int)) = false := by simp; omega
      go_wp2_with fail
      go_ret
      exact ⟨rfl, Law.below_drewN HB2.out _⟩
end Mod
end Go.Proofs.YtombdjkfbjpipaaGreat
