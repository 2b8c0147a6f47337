/-
  A table that stays small enough (layer 10): what each act makes of its bounds. Plain.
-/
import Derived.Test.YtohdlnefgieenaaGreatJ22
namespace Go.Proofs.YtohdlnefgieenaaGreat
open Go.RowKit
namespace Mod
open Go.Law Feed Bk
section
variable {a : Mo} {b who : Nat}
theorem Mo.Ok.more {b' : Nat} (h : a.Ok b) (hb : b ≤ b') : a.Ok b' := ⟨h.n1, h.n8, h.room, h.now, h.seq, fun k hk => (h.fit k hk).more hb, fun k hk i hi => Nat.le_trans (h.wat k hk i hi) hb, h.que⟩
theorem upto_le16 {room : Nat} (hr : room ≤ 16) {s : St} (e : Ev) {i : Nat} (h : (s.que i).length ≤ 16) (n : Nat) : ((s.upto room e n).que i).length ≤ 16 := by
 rw [upto_que]
 split
 ·unfold putL
  split
  ·simp; omega
  ·exact h
 ·exact h
theorem tell_le16 {room : Nat} (hr : room ≤ 16) (seq : Int) {i : Nat} : ∀ (l : List Cg) (s : St), (s.que i).length ≤ 16 → ((s.tell room l seq).que i).length ≤ 16
 | [], _, h => h
 | c :: r, s, h => by
   show ((St.tell room (s.upto room (c.ev seq) 8) r seq).que i).length ≤ 16
   exact tell_le16 hr seq r _ (upto_le16 hr _ h 8)
theorem tell_wat (room : Nat) (seq : Int) : ∀ (l : List Cg) (s : St), (s.tell room l seq).wat = s.wat
 | [], _ => rfl
 | c :: r, s => by
   show (St.tell room (s.upto room (c.ev seq) 8) r seq).wat = _
   rw [tell_wat room seq r, upto_wat]
theorem take_ok (h : a.Ok b) : a.take.Ok b := ⟨h.n1, h.n8, h.room, h.now, Door.sat_U h.seq Door.U1, h.fit, h.wat, h.que⟩
theorem become_ok {b' : Nat} (h : a.Ok b) (hb : b ≤ b') {k : Nat} {nb : List (ByteArray × En)} (hn : Fit b' nb) (cs : List Ch) (seq : Int) : (a.become k nb cs seq).Ok b' := by
 refine ⟨h.n1, h.n8, h.room, h.now, h.seq, fun i hi => ?_, fun i hi j hj => ?_, fun i hi j hj => ?_⟩
 ·show Fit b' (upd a.bk k nb i)
  by_cases e : i = k
  ·subst e; rw [upd_same]; exact hn
  ·rw [upd_other _ _ e]; exact (h.fit i hi).more hb
 ·show ((upd a.fd k _ i).wat j).length ≤ b'
  by_cases e : i = k
  ·subst e; rw [upd_same, tell_wat]; exact Nat.le_trans (h.wat i hi j hj) hb
  ·rw [upd_other _ _ e]; exact Nat.le_trans (h.wat i hi j hj) hb
 ·show ((upd a.fd k _ i).que j).length ≤ 16
  by_cases e : i = k
  ·subst e; rw [upd_same]; exact tell_le16 h.room _ _ _ (h.que i hi j hj)
  ·rw [upd_other _ _ e]; exact h.que i hi j hj
theorem sweep_ok (h : a.Ok b) (s : Int) : (a.sweep s).Ok b := by
 unfold Mo.sweep
 split
 ·rename_i hs
  exact become_ok (take_ok h) (Nat.le_refl _) ((h.fit s.toNat (by omega)).sweep) _ _
 ·exact h
theorem tick_ok (h : a.Ok b) {t : Int} (ht : Door.U t) : (a.tick t).Ok b := ⟨h.n1, h.n8, h.room, Door.sat_U h.now ht, h.seq, h.fit, h.wat, h.que⟩
theorem write_ok (h : a.Ok b) (x : OpV) : (a.write x).1.Ok (b + 1) := by
 unfold Mo.write
 split
 ·exact (take_ok h).more (by omega)
 ·exact become_ok (take_ok h) (by omega) ((h.fit _ (str_lt _ h.n1)).write) _ _
theorem feed1_ok (h : a.Ok b) (k : Nat) (s : St) (h1 : ∀ j, j < 8 → (s.wat j).length ≤ b + 1) (h2 : ∀ j, j < 8 → (s.que j).length ≤ 16) : (a.feed1 k s).Ok (b + 1) := by
 refine ⟨h.n1, h.n8, h.room, h.now, h.seq, fun i hi => (h.fit i hi).more (by omega), fun i hi j hj => ?_, fun i hi j hj => ?_⟩
 ·show ((upd a.fd k s i).wat j).length ≤ b + 1
  by_cases e : i = k
  ·subst e; rw [upd_same]; exact h1 j hj
  ·rw [upd_other _ _ e]; exact Nat.le_succ_of_le (h.wat i hi j hj)
 ·show ((upd a.fd k s i).que j).length ≤ 16
  by_cases e : i = k
  ·subst e; rw [upd_same]; exact h2 j hj
  ·rw [upd_other _ _ e]; exact h.que i hi j hj
theorem watch_ok (h : a.Ok b) (u : ByteArray) : (a.watch who u).1.Ok (b + 1) := by
 unfold Mo.watch
 split
 ·exact h.more (by omega)
 ·have hk := str_lt u h.n1
  refine feed1_ok h _ _ (fun j hj => ?_) (fun j hj => h.que _ hk j hj)
  show (upd (a.fd (str u a.n)).wat who _ j).length ≤ b + 1
  by_cases e : j = who
  ·subst e; rw [upd_same]; have := (putK_length OmapU.lt u 0 ((a.fd (str u a.n)).wat j)).1; have := h.wat _ hk j hj; omega
  ·rw [upd_other _ _ e]; exact Nat.le_succ_of_le (h.wat _ hk j hj)
theorem unwatch_ok (h : a.Ok b) (u : ByteArray) : (a.unwatch who u).Ok (b + 1) := by
 unfold Mo.unwatch
 have hk := str_lt u h.n1
 refine feed1_ok h _ _ (fun j hj => ?_) (fun j hj => h.que _ hk j hj)
 show (upd (a.fd (str u a.n)).wat who _ j).length ≤ b + 1
 by_cases e : j = who
 ·subst e; rw [upd_same]; have := outK_length u ((a.fd (str u a.n)).wat j); have := h.wat _ hk j hj; omega
 ·rw [upd_other _ _ e]; exact Nat.le_succ_of_le (h.wat _ hk j hj)
theorem poll_ok (h : a.Ok b) : (a.poll who).1.Ok (b + 1) := by
 refine ⟨h.n1, h.n8, h.room, h.now, h.seq, fun i hi => (h.fit i hi).more (by omega), fun i hi j hj => ?_, fun i hi j hj => ?_⟩
 ·show ((if i < a.n then drained who (a.fd i) else a.fd i).wat j).length ≤ b + 1
  split
  ·exact Nat.le_succ_of_le (h.wat i hi j hj)
  ·exact Nat.le_succ_of_le (h.wat i hi j hj)
 ·show ((if i < a.n then drained who (a.fd i) else a.fd i).que j).length ≤ 16
  split
  ·show (upd (a.fd i).que who [] j).length ≤ 16
   by_cases e : j = who
   ·subst e; rw [upd_same]; simp
   ·rw [upd_other _ _ e]; exact h.que i hi j hj
  ·exact h.que i hi j hj
theorem do_ok (h : a.Ok b) (who : Int) (q : OpW) : (a.do_ who q).1.Ok (b + 1) := by
 have hm := h.more (Nat.le_succ b)
 unfold Mo.do_
 split
 ·unfold Mo.ask
  split
  ·exact write_ok h _
  ·split
   ·exact poll_ok h
   ·split
    ·exact hm
    ·split
     ·exact hm
     ·split
      ·exact hm
      ·split
       ·exact watch_ok h _
       ·split
        ·exact unwatch_ok h _
        ·exact ⟨hm.n1, hm.n8, hm.room, hm.now, hm.seq, hm.fit, hm.wat, hm.que⟩
 ·exact hm
end
end Mod
end Go.Proofs.YtohdlnefgieenaaGreat
namespace Go.Proofs.YtohdlnefgieenaaGreat
open Go.RowKit Go.Shelf
attribute [local go_sem] Oper.semAt_some
namespace Mod
open Go.Law Feed Bk
section
variable {w w' : World} {base m t c b : Nat} {S S' : Nat → Prop} {arr : Array Value} {p : Nat → Option Addr} {g : Nat → Nat} {Sk : Nat → Nat → Prop} {a : Mo}
theorem TabV.tab (h : TabV w base S m t c arr p g Sk a) : Tab w base S m a := ⟨_, _, _, _, _, _, h⟩
set_option maxRecDepth 100000 in
set_option maxHeartbeats 2000000 in
theorem do1 (user : ByteArray) (id st pr ttl : Int) (A : Option Addr) (c : Nat) (us : List ByteArray) (h : Tab w base S m a) (ho : a.Ok b) (hb : b ≤ 380) (hbw : base ≤ w.heap.size) {who : Nat} (hw : who < 8) (hin : OpW.In ⟨1, user, id, st, pr, ttl, A, c, us⟩ w) (hg : goodB ⟨1, user, id, st, pr, ttl, A, c, us⟩ = true) :
  Calls Tryz.prog 21 #[.pointer (some ⟨m, 0, none⟩), .int .i64 (who : Int), .agg #[.int .i64 1, .string user, .int .i64 id, .int .i64 st, .int .i64 pr, .int .u64 ttl, .slice A us.length c]] w (Polled w base S m (a.ask who ⟨1, user, id, st, pr, ttl, A, c, us⟩).1 (a.ask who ⟨1, user, id, st, pr, ttl, A, c, us⟩).2) := by
 rw [show a.ask who ⟨1, user, id, st, pr, ttl, A, c, us⟩ = ((a.write (OpW.v ⟨1, user, id, st, pr, ttl, A, c, us⟩)).1, Rep.of (a.write (OpW.v ⟨1, user, id, st, pr, ttl, A, c, us⟩)).2) from by simp [Mo.ask]]
 have hw2 : (decide ((0 : Int) ≤ (who : Int)) && decide ((who : Int) ≤ 7)) = true := by simp; omega
 have bb := ((Below.refl w.heap.size w).alloc (Nat.le_refl _) (.cells #[.int .i64 1, .string user, .int .i64 id, .int .i64 st, .int .i64 pr, .int .u64 ttl, .slice A us.length c] 37)).alloc (by simp) (.cells #[.int .i64 0, .slice none 0 0, .slice none 0 0, .bool false] 43)
 have HX1 : Hid (Is ((w.alloc (.cells #[.int .i64 1, .string user, .int .i64 id, .int .i64 st, .int .i64 pr, .int .u64 ttl, .slice A us.length c] 37)).alloc (.cells #[.int .i64 0, .slice none 0 0, .slice none 0 0, .bool false] 43)) w.heap.size 37 #[.int .i64 1, .string user, .int .i64 id, .int .i64 st, .int .i64 pr, .int .u64 ttl, .slice A us.length c]) := (Is.new w _ _ rfl).alloc _
 have HR1 : Hid (Is ((w.alloc (.cells #[.int .i64 1, .string user, .int .i64 id, .int .i64 st, .int .i64 pr, .int .u64 ttl, .slice A us.length c] 37)).alloc (.cells #[.int .i64 0, .slice none 0 0, .slice none 0 0, .bool false] 43)) (w.heap.size + 1) 43 #[.int .i64 0, .slice none 0 0, .slice none 0 0, .bool false]) := Is.new _ _ _ (by simp)
 have H1 := Lib.hid (h.below bb)
 have G1 : Hid (Gone w S _ S) := Gone.of_below bb
 have IN1 := Lib.hid (hin.below bb)
 have hok := Lib.hid h.ok
 have HO := Lib.hid ho
 have HU := Lib.hid hin
 have hbw1 := Nat.le_trans hbw bb.size
 have NX : Hid (¬ S w.heap.size) := fun hx => by have := (hok.out _ hx).2; omega
 have NR : Hid (¬ S (w.heap.size + 1)) := fun hx => by have := (hok.out _ hx).2; omega
 clear bb h ho hin
 go_enter Tryz.func21, Tryz.ntmps21
 go_wp2_with fail
 generalize ((w.alloc (.cells #[.int .i64 1, .string user, .int .i64 id, .int .i64 st, .int .i64 pr, .int .u64 ttl, .slice A us.length c] 37)).alloc (.cells #[.int .i64 0, .slice none 0 0, .slice none 0 0, .bool false] 43)) = w1 at *
 refine (bad ⟨1, user, id, st, pr, ttl, A, c, us⟩ IN1.out (r := false) (by rw [hg]; rfl)).mono ?_
 rintro e w2 ⟨rfl, b2⟩
 have HX2 := Lib.hid (HX1.out.below b2 HX1.out.lt)
 have HR2 := Lib.hid (HR1.out.below b2 HR1.out.lt)
 have H2 := Lib.hid (H1.out.below b2)
 have G2 := Lib.hid (G1.out.trans (Gone.of_below b2))
 have IN2 := Lib.hid (IN1.out.below b2)
 have hbw2 := Nat.le_trans hbw1 b2.size
 clear b2 HX1 HR1 H1 G1 IN1
 go_wp2_with fail
 refine (within _ _ _ true hw2 _).mono ?_
 rintro e w2' ⟨rfl, rfl⟩
 have x0 : w2.cell? ⟨w.heap.size, 0, none⟩ = some (.int .i64 1) := HX2.out.cell' rfl
 have x1 : w2.cell? ⟨w.heap.size, 1, none⟩ = some (.string user) := HX2.out.cell' rfl
 have x2 : w2.cell? ⟨w.heap.size, 2, none⟩ = some (.int .i64 id) := HX2.out.cell' rfl
 have x3 : w2.cell? ⟨w.heap.size, 3, none⟩ = some (.int .i64 st) := HX2.out.cell' rfl
 have x4 : w2.cell? ⟨w.heap.size, 4, none⟩ = some (.int .i64 pr) := HX2.out.cell' rfl
 have x5 : w2.cell? ⟨w.heap.size, 5, none⟩ = some (.int .u64 ttl) := HX2.out.cell' rfl
 have x6 : w2.cell? ⟨w.heap.size, 6, none⟩ = some (.slice A us.length c) := HX2.out.cell' rfl
 have lx := HX2.out.lt
 go_wp2_with fail
 refine (write H2.out HO.out hb hbw2 (OpW.v ⟨1, user, id, st, pr, ttl, A, c, us⟩) HU.out.user HU.out.ttl ⟨_, _, _, rfl⟩).mono ?_
 rintro e w3 ⟨rfl, S', hT, hG⟩
 have HR3 := Lib.hid (hG.is HR2.out NR.out)
 have H3 := Lib.hid hT
 have G3 := Lib.hid (G2.out.trans hG)
 have N3 : ¬ S' (w.heap.size + 1) := fun hx => (hG.new _ hx).elim NR.out (fun h' => by have := HR2.out.lt; omega)
 clear hT hG HX2 HR2 H2 G2 x0 x1 x2 x3 x4 x5 x6 lx
 generalize (a.write (OpW.v ⟨1, user, id, st, pr, ttl, A, c, us⟩)).2 = er at *
 have lr := HR3.out.lt
 have r0 := HR3.out.cell' (i := 0) rfl
 have r1 := HR3.out.cell' (i := 1) rfl
 have r2 := HR3.out.cell' (i := 2) rfl
 have r3 := HR3.out.cell' (i := 3) rfl
 have q0 := HR3.out.frozen 0
 have q1 := HR3.out.frozen 1
 have q2 := HR3.out.frozen 2
 have q3 := HR3.out.frozen 3
 go_wp2_with fail
 have HW := wrap HR3.out H3.out G3.out (Nat.le_succ _) N3 (.int .i64 er) (.slice none 0 0) (.slice none 0 0) (.bool false)
 generalize (((w3.setCell ⟨w.heap.size + 1, 0, none⟩ (.int .i64 er)).setCell ⟨w.heap.size + 1, 1, none⟩ (.slice none 0 0)).setCell ⟨w.heap.size + 1, 2, none⟩ (.slice none 0 0)).setCell ⟨w.heap.size + 1, 3, none⟩ (.bool false) = wz at *
 have n0 := HW.box.cell' (i := 0) rfl
 have n1 := HW.box.cell' (i := 1) rfl
 have n2 := HW.box.cell' (i := 2) rfl
 have n3 := HW.box.cell' (i := 3) rfl
 refine bodyPost_ret (v := .agg #[.int .i64 er, .slice none 0 0, .slice none 0 0, .bool false]) (by simp [results, Tryz.results21, go_sem, n0, n1, n2, n3]) rfl ?_
 exact ⟨none, 0, none, 0, rfl, fun h => absurd rfl h, fun h => absurd rfl h, S', HW.tab, HW.gone⟩
set_option maxRecDepth 100000 in
set_option maxHeartbeats 2000000 in
theorem do2 (user : ByteArray) (id st pr ttl : Int) (A : Option Addr) (c : Nat) (us : List ByteArray) (h : Tab w base S m a) (ho : a.Ok b) (hb : b ≤ 380) (hbw : base ≤ w.heap.size) {who : Nat} (hw : who < 8) (hin : OpW.In ⟨2, user, id, st, pr, ttl, A, c, us⟩ w) (hg : goodB ⟨2, user, id, st, pr, ttl, A, c, us⟩ = true) :
  Calls Tryz.prog 21 #[.pointer (some ⟨m, 0, none⟩), .int .i64 (who : Int), .agg #[.int .i64 2, .string user, .int .i64 id, .int .i64 st, .int .i64 pr, .int .u64 ttl, .slice A us.length c]] w (Polled w base S m (a.ask who ⟨2, user, id, st, pr, ttl, A, c, us⟩).1 (a.ask who ⟨2, user, id, st, pr, ttl, A, c, us⟩).2) := by
 rw [show a.ask who ⟨2, user, id, st, pr, ttl, A, c, us⟩ = ((a.write (OpW.v ⟨2, user, id, st, pr, ttl, A, c, us⟩)).1, Rep.of (a.write (OpW.v ⟨2, user, id, st, pr, ttl, A, c, us⟩)).2) from by simp [Mo.ask]]
 have hw2 : (decide ((0 : Int) ≤ (who : Int)) && decide ((who : Int) ≤ 7)) = true := by simp; omega
 have bb := ((Below.refl w.heap.size w).alloc (Nat.le_refl _) (.cells #[.int .i64 2, .string user, .int .i64 id, .int .i64 st, .int .i64 pr, .int .u64 ttl, .slice A us.length c] 37)).alloc (by simp) (.cells #[.int .i64 0, .slice none 0 0, .slice none 0 0, .bool false] 43)
 have HX1 : Hid (Is ((w.alloc (.cells #[.int .i64 2, .string user, .int .i64 id, .int .i64 st, .int .i64 pr, .int .u64 ttl, .slice A us.length c] 37)).alloc (.cells #[.int .i64 0, .slice none 0 0, .slice none 0 0, .bool false] 43)) w.heap.size 37 #[.int .i64 2, .string user, .int .i64 id, .int .i64 st, .int .i64 pr, .int .u64 ttl, .slice A us.length c]) := (Is.new w _ _ rfl).alloc _
 have HR1 : Hid (Is ((w.alloc (.cells #[.int .i64 2, .string user, .int .i64 id, .int .i64 st, .int .i64 pr, .int .u64 ttl, .slice A us.length c] 37)).alloc (.cells #[.int .i64 0, .slice none 0 0, .slice none 0 0, .bool false] 43)) (w.heap.size + 1) 43 #[.int .i64 0, .slice none 0 0, .slice none 0 0, .bool false]) := Is.new _ _ _ (by simp)
 have H1 := Lib.hid (h.below bb)
 have G1 : Hid (Gone w S _ S) := Gone.of_below bb
 have IN1 := Lib.hid (hin.below bb)
 have hok := Lib.hid h.ok
 have HO := Lib.hid ho
 have HU := Lib.hid hin
 have hbw1 := Nat.le_trans hbw bb.size
 have NX : Hid (¬ S w.heap.size) := fun hx => by have := (hok.out _ hx).2; omega
 have NR : Hid (¬ S (w.heap.size + 1)) := fun hx => by have := (hok.out _ hx).2; omega
 clear bb h ho hin
 go_enter Tryz.func21, Tryz.ntmps21
 go_wp2_with fail
 generalize ((w.alloc (.cells #[.int .i64 2, .string user, .int .i64 id, .int .i64 st, .int .i64 pr, .int .u64 ttl, .slice A us.length c] 37)).alloc (.cells #[.int .i64 0, .slice none 0 0, .slice none 0 0, .bool false] 43)) = w1 at *
 refine (bad ⟨2, user, id, st, pr, ttl, A, c, us⟩ IN1.out (r := false) (by rw [hg]; rfl)).mono ?_
 rintro e w2 ⟨rfl, b2⟩
 have HX2 := Lib.hid (HX1.out.below b2 HX1.out.lt)
 have HR2 := Lib.hid (HR1.out.below b2 HR1.out.lt)
 have H2 := Lib.hid (H1.out.below b2)
 have G2 := Lib.hid (G1.out.trans (Gone.of_below b2))
 have IN2 := Lib.hid (IN1.out.below b2)
 have hbw2 := Nat.le_trans hbw1 b2.size
 clear b2 HX1 HR1 H1 G1 IN1
 go_wp2_with fail
 refine (within _ _ _ true hw2 _).mono ?_
 rintro e w2' ⟨rfl, rfl⟩
 have x0 : w2.cell? ⟨w.heap.size, 0, none⟩ = some (.int .i64 2) := HX2.out.cell' rfl
 have x1 : w2.cell? ⟨w.heap.size, 1, none⟩ = some (.string user) := HX2.out.cell' rfl
 have x2 : w2.cell? ⟨w.heap.size, 2, none⟩ = some (.int .i64 id) := HX2.out.cell' rfl
 have x3 : w2.cell? ⟨w.heap.size, 3, none⟩ = some (.int .i64 st) := HX2.out.cell' rfl
 have x4 : w2.cell? ⟨w.heap.size, 4, none⟩ = some (.int .i64 pr) := HX2.out.cell' rfl
 have x5 : w2.cell? ⟨w.heap.size, 5, none⟩ = some (.int .u64 ttl) := HX2.out.cell' rfl
 have x6 : w2.cell? ⟨w.heap.size, 6, none⟩ = some (.slice A us.length c) := HX2.out.cell' rfl
 have lx := HX2.out.lt
 go_wp2_with fail
 refine (write H2.out HO.out hb hbw2 (OpW.v ⟨2, user, id, st, pr, ttl, A, c, us⟩) HU.out.user HU.out.ttl ⟨_, _, _, rfl⟩).mono ?_
 rintro e w3 ⟨rfl, S', hT, hG⟩
 have HR3 := Lib.hid (hG.is HR2.out NR.out)
 have H3 := Lib.hid hT
 have G3 := Lib.hid (G2.out.trans hG)
 have N3 : ¬ S' (w.heap.size + 1) := fun hx => (hG.new _ hx).elim NR.out (fun h' => by have := HR2.out.lt; omega)
 clear hT hG HX2 HR2 H2 G2 x0 x1 x2 x3 x4 x5 x6 lx
 generalize (a.write (OpW.v ⟨2, user, id, st, pr, ttl, A, c, us⟩)).2 = er at *
 have lr := HR3.out.lt
 have r0 := HR3.out.cell' (i := 0) rfl
 have r1 := HR3.out.cell' (i := 1) rfl
 have r2 := HR3.out.cell' (i := 2) rfl
 have r3 := HR3.out.cell' (i := 3) rfl
 have q0 := HR3.out.frozen 0
 have q1 := HR3.out.frozen 1
 have q2 := HR3.out.frozen 2
 have q3 := HR3.out.frozen 3
 go_wp2_with fail
 have HW := wrap HR3.out H3.out G3.out (Nat.le_succ _) N3 (.int .i64 er) (.slice none 0 0) (.slice none 0 0) (.bool false)
 generalize (((w3.setCell ⟨w.heap.size + 1, 0, none⟩ (.int .i64 er)).setCell ⟨w.heap.size + 1, 1, none⟩ (.slice none 0 0)).setCell ⟨w.heap.size + 1, 2, none⟩ (.slice none 0 0)).setCell ⟨w.heap.size + 1, 3, none⟩ (.bool false) = wz at *
 have n0 := HW.box.cell' (i := 0) rfl
 have n1 := HW.box.cell' (i := 1) rfl
 have n2 := HW.box.cell' (i := 2) rfl
 have n3 := HW.box.cell' (i := 3) rfl
 refine bodyPost_ret (v := .agg #[.int .i64 er, .slice none 0 0, .slice none 0 0, .bool false]) (by simp [results, Tryz.results21, go_sem, n0, n1, n2, n3]) rfl ?_
 exact ⟨none, 0, none, 0, rfl, fun h => absurd rfl h, fun h => absurd rfl h, S', HW.tab, HW.gone⟩
set_option maxRecDepth 100000 in
set_option maxHeartbeats 2000000 in
theorem do3 (user : ByteArray) (id st pr ttl : Int) (A : Option Addr) (c : Nat) (us : List ByteArray) (h : Tab w base S m a) (ho : a.Ok b) (hb : b ≤ 380) (hbw : base ≤ w.heap.size) {who : Nat} (hw : who < 8) (hin : OpW.In ⟨3, user, id, st, pr, ttl, A, c, us⟩ w) (hg : goodB ⟨3, user, id, st, pr, ttl, A, c, us⟩ = true) :
  Calls Tryz.prog 21 #[.pointer (some ⟨m, 0, none⟩), .int .i64 (who : Int), .agg #[.int .i64 3, .string user, .int .i64 id, .int .i64 st, .int .i64 pr, .int .u64 ttl, .slice A us.length c]] w (Polled w base S m (a.ask who ⟨3, user, id, st, pr, ttl, A, c, us⟩).1 (a.ask who ⟨3, user, id, st, pr, ttl, A, c, us⟩).2) := by
 rw [show a.ask who ⟨3, user, id, st, pr, ttl, A, c, us⟩ = ((a.write (OpW.v ⟨3, user, id, st, pr, ttl, A, c, us⟩)).1, Rep.of (a.write (OpW.v ⟨3, user, id, st, pr, ttl, A, c, us⟩)).2) from by simp [Mo.ask]]
 have hw2 : (decide ((0 : Int) ≤ (who : Int)) && decide ((who : Int) ≤ 7)) = true := by simp; omega
 have bb := ((Below.refl w.heap.size w).alloc (Nat.le_refl _) (.cells #[.int .i64 3, .string user, .int .i64 id, .int .i64 st, .int .i64 pr, .int .u64 ttl, .slice A us.length c] 37)).alloc (by simp) (.cells #[.int .i64 0, .slice none 0 0, .slice none 0 0, .bool false] 43)
 have HX1 : Hid (Is ((w.alloc (.cells #[.int .i64 3, .string user, .int .i64 id, .int .i64 st, .int .i64 pr, .int .u64 ttl, .slice A us.length c] 37)).alloc (.cells #[.int .i64 0, .slice none 0 0, .slice none 0 0, .bool false] 43)) w.heap.size 37 #[.int .i64 3, .string user, .int .i64 id, .int .i64 st, .int .i64 pr, .int .u64 ttl, .slice A us.length c]) := (Is.new w _ _ rfl).alloc _
 have HR1 : Hid (Is ((w.alloc (.cells #[.int .i64 3, .string user, .int .i64 id, .int .i64 st, .int .i64 pr, .int .u64 ttl, .slice A us.length c] 37)).alloc (.cells #[.int .i64 0, .slice none 0 0, .slice none 0 0, .bool false] 43)) (w.heap.size + 1) 43 #[.int .i64 0, .slice none 0 0, .slice none 0 0, .bool false]) := Is.new _ _ _ (by simp)
 have H1 := Lib.hid (h.below bb)
 have G1 : Hid (Gone w S _ S) := Gone.of_below bb
 have IN1 := Lib.hid (hin.below bb)
 have hok := Lib.hid h.ok
 have HO := Lib.hid ho
 have HU := Lib.hid hin
 have hbw1 := Nat.le_trans hbw bb.size
 have NX : Hid (¬ S w.heap.size) := fun hx => by have := (hok.out _ hx).2; omega
 have NR : Hid (¬ S (w.heap.size + 1)) := fun hx => by have := (hok.out _ hx).2; omega
 clear bb h ho hin
 go_enter Tryz.func21, Tryz.ntmps21
 go_wp2_with fail
 generalize ((w.alloc (.cells #[.int .i64 3, .string user, .int .i64 id, .int .i64 st, .int .i64 pr, .int .u64 ttl, .slice A us.length c] 37)).alloc (.cells #[.int .i64 0, .slice none 0 0, .slice none 0 0, .bool false] 43)) = w1 at *
 refine (bad ⟨3, user, id, st, pr, ttl, A, c, us⟩ IN1.out (r := false) (by rw [hg]; rfl)).mono ?_
 rintro e w2 ⟨rfl, b2⟩
 have HX2 := Lib.hid (HX1.out.below b2 HX1.out.lt)
 have HR2 := Lib.hid (HR1.out.below b2 HR1.out.lt)
 have H2 := Lib.hid (H1.out.below b2)
 have G2 := Lib.hid (G1.out.trans (Gone.of_below b2))
 have IN2 := Lib.hid (IN1.out.below b2)
 have hbw2 := Nat.le_trans hbw1 b2.size
 clear b2 HX1 HR1 H1 G1 IN1
 go_wp2_with fail
 refine (within _ _ _ true hw2 _).mono ?_
 rintro e w2' ⟨rfl, rfl⟩
 have x0 : w2.cell? ⟨w.heap.size, 0, none⟩ = some (.int .i64 3) := HX2.out.cell' rfl
 have x1 : w2.cell? ⟨w.heap.size, 1, none⟩ = some (.string user) := HX2.out.cell' rfl
 have x2 : w2.cell? ⟨w.heap.size, 2, none⟩ = some (.int .i64 id) := HX2.out.cell' rfl
 have x3 : w2.cell? ⟨w.heap.size, 3, none⟩ = some (.int .i64 st) := HX2.out.cell' rfl
 have x4 : w2.cell? ⟨w.heap.size, 4, none⟩ = some (.int .i64 pr) := HX2.out.cell' rfl
 have x5 : w2.cell? ⟨w.heap.size, 5, none⟩ = some (.int .u64 ttl) := HX2.out.cell' rfl
 have x6 : w2.cell? ⟨w.heap.size, 6, none⟩ = some (.slice A us.length c) := HX2.out.cell' rfl
 have lx := HX2.out.lt
 go_wp2_with fail
 refine (write H2.out HO.out hb hbw2 (OpW.v ⟨3, user, id, st, pr, ttl, A, c, us⟩) HU.out.user HU.out.ttl ⟨_, _, _, rfl⟩).mono ?_
 rintro e w3 ⟨rfl, S', hT, hG⟩
 have HR3 := Lib.hid (hG.is HR2.out NR.out)
 have H3 := Lib.hid hT
 have G3 := Lib.hid (G2.out.trans hG)
 have N3 : ¬ S' (w.heap.size + 1) := fun hx => (hG.new _ hx).elim NR.out (fun h' => by have := HR2.out.lt; omega)
 clear hT hG HX2 HR2 H2 G2 x0 x1 x2 x3 x4 x5 x6 lx
 generalize (a.write (OpW.v ⟨3, user, id, st, pr, ttl, A, c, us⟩)).2 = er at *
 have lr := HR3.out.lt
 have r0 := HR3.out.cell' (i := 0) rfl
 have r1 := HR3.out.cell' (i := 1) rfl
 have r2 := HR3.out.cell' (i := 2) rfl
 have r3 := HR3.out.cell' (i := 3) rfl
 have q0 := HR3.out.frozen 0
 have q1 := HR3.out.frozen 1
 have q2 := HR3.out.frozen 2
 have q3 := HR3.out.frozen 3
 go_wp2_with fail
 have HW := wrap HR3.out H3.out G3.out (Nat.le_succ _) N3 (.int .i64 er) (.slice none 0 0) (.slice none 0 0) (.bool false)
 generalize (((w3.setCell ⟨w.heap.size + 1, 0, none⟩ (.int .i64 er)).setCell ⟨w.heap.size + 1, 1, none⟩ (.slice none 0 0)).setCell ⟨w.heap.size + 1, 2, none⟩ (.slice none 0 0)).setCell ⟨w.heap.size + 1, 3, none⟩ (.bool false) = wz at *
 have n0 := HW.box.cell' (i := 0) rfl
 have n1 := HW.box.cell' (i := 1) rfl
 have n2 := HW.box.cell' (i := 2) rfl
 have n3 := HW.box.cell' (i := 3) rfl
 refine bodyPost_ret (v := .agg #[.int .i64 er, .slice none 0 0, .slice none 0 0, .bool false]) (by simp [results, Tryz.results21, go_sem, n0, n1, n2, n3]) rfl ?_
 exact ⟨none, 0, none, 0, rfl, fun h => absurd rfl h, fun h => absurd rfl h, S', HW.tab, HW.gone⟩
set_option maxRecDepth 100000 in
set_option maxHeartbeats 2000000 in
theorem do8 (user : ByteArray) (id st pr ttl : Int) (A : Option Addr) (c : Nat) (us : List ByteArray) (h : Tab w base S m a) (ho : a.Ok b) (_hb : b ≤ 380) (hbw : base ≤ w.heap.size) {who : Nat} (hw : who < 8) (hin : OpW.In ⟨8, user, id, st, pr, ttl, A, c, us⟩ w) (hg : goodB ⟨8, user, id, st, pr, ttl, A, c, us⟩ = true) :
  Calls Tryz.prog 21 #[.pointer (some ⟨m, 0, none⟩), .int .i64 (who : Int), .agg #[.int .i64 8, .string user, .int .i64 id, .int .i64 st, .int .i64 pr, .int .u64 ttl, .slice A us.length c]] w (Polled w base S m (a.ask who ⟨8, user, id, st, pr, ttl, A, c, us⟩).1 (a.ask who ⟨8, user, id, st, pr, ttl, A, c, us⟩).2) := by
 rw [show a.ask who ⟨8, user, id, st, pr, ttl, A, c, us⟩ = a.poll who from by simp [Mo.ask]]
 have hw2 : (decide ((0 : Int) ≤ (who : Int)) && decide ((who : Int) ≤ 7)) = true := by simp; omega
 have bb := ((Below.refl w.heap.size w).alloc (Nat.le_refl _) (.cells #[.int .i64 8, .string user, .int .i64 id, .int .i64 st, .int .i64 pr, .int .u64 ttl, .slice A us.length c] 37)).alloc (by simp) (.cells #[.int .i64 0, .slice none 0 0, .slice none 0 0, .bool false] 43)
 have HX1 : Hid (Is ((w.alloc (.cells #[.int .i64 8, .string user, .int .i64 id, .int .i64 st, .int .i64 pr, .int .u64 ttl, .slice A us.length c] 37)).alloc (.cells #[.int .i64 0, .slice none 0 0, .slice none 0 0, .bool false] 43)) w.heap.size 37 #[.int .i64 8, .string user, .int .i64 id, .int .i64 st, .int .i64 pr, .int .u64 ttl, .slice A us.length c]) := (Is.new w _ _ rfl).alloc _
 have HR1 : Hid (Is ((w.alloc (.cells #[.int .i64 8, .string user, .int .i64 id, .int .i64 st, .int .i64 pr, .int .u64 ttl, .slice A us.length c] 37)).alloc (.cells #[.int .i64 0, .slice none 0 0, .slice none 0 0, .bool false] 43)) (w.heap.size + 1) 43 #[.int .i64 0, .slice none 0 0, .slice none 0 0, .bool false]) := Is.new _ _ _ (by simp)
 have H1 := Lib.hid (h.below bb)
 have G1 : Hid (Gone w S _ S) := Gone.of_below bb
 have IN1 := Lib.hid (hin.below bb)
 have hok := Lib.hid h.ok
 have HO := Lib.hid ho
 have HU := Lib.hid hin
 have hbw1 := Nat.le_trans hbw bb.size
 have NX : Hid (¬ S w.heap.size) := fun hx => by have := (hok.out _ hx).2; omega
 have NR : Hid (¬ S (w.heap.size + 1)) := fun hx => by have := (hok.out _ hx).2; omega
 clear bb h ho hin
 go_enter Tryz.func21, Tryz.ntmps21
 go_wp2_with fail
 generalize ((w.alloc (.cells #[.int .i64 8, .string user, .int .i64 id, .int .i64 st, .int .i64 pr, .int .u64 ttl, .slice A us.length c] 37)).alloc (.cells #[.int .i64 0, .slice none 0 0, .slice none 0 0, .bool false] 43)) = w1 at *
 refine (bad ⟨8, user, id, st, pr, ttl, A, c, us⟩ IN1.out (r := false) (by rw [hg]; rfl)).mono ?_
 rintro e w2 ⟨rfl, b2⟩
 have HX2 := Lib.hid (HX1.out.below b2 HX1.out.lt)
 have HR2 := Lib.hid (HR1.out.below b2 HR1.out.lt)
 have H2 := Lib.hid (H1.out.below b2)
 have G2 := Lib.hid (G1.out.trans (Gone.of_below b2))
 have IN2 := Lib.hid (IN1.out.below b2)
 have hbw2 := Nat.le_trans hbw1 b2.size
 clear b2 HX1 HR1 H1 G1 IN1
 go_wp2_with fail
 refine (within _ _ _ true hw2 _).mono ?_
 rintro e w2' ⟨rfl, rfl⟩
 have x0 : w2.cell? ⟨w.heap.size, 0, none⟩ = some (.int .i64 8) := HX2.out.cell' rfl
 have x1 : w2.cell? ⟨w.heap.size, 1, none⟩ = some (.string user) := HX2.out.cell' rfl
 have x2 : w2.cell? ⟨w.heap.size, 2, none⟩ = some (.int .i64 id) := HX2.out.cell' rfl
 have x3 : w2.cell? ⟨w.heap.size, 3, none⟩ = some (.int .i64 st) := HX2.out.cell' rfl
 have x4 : w2.cell? ⟨w.heap.size, 4, none⟩ = some (.int .i64 pr) := HX2.out.cell' rfl
 have x5 : w2.cell? ⟨w.heap.size, 5, none⟩ = some (.int .u64 ttl) := HX2.out.cell' rfl
 have x6 : w2.cell? ⟨w.heap.size, 6, none⟩ = some (.slice A us.length c) := HX2.out.cell' rfl
 have lx := HX2.out.lt
 go_wp2_with fail
 refine (poll H2.out HO.out hw).mono ?_
 generalize a.poll who = pr at *
 rintro e w3 ⟨A1, c1, A2, c2, rfl, hs1, hs2, S', hT, hG⟩
 have HR3 := Lib.hid (hG.is HR2.out NR.out)
 have H3 := Lib.hid hT
 have G3 := Lib.hid (G2.out.trans hG)
 have N3 : ¬ S' (w.heap.size + 1) := fun hx => (hG.new _ hx).elim NR.out (fun h' => by have := HR2.out.lt; omega)
 have l2 := HR2.out.lt
 have HS1 := Lib.hid hs1
 have HS2 := Lib.hid hs2
 clear hs1 hs2 hT hG HX2 HR2 H2 G2 x0 x1 x2 x3 x4 x5 x6 lx
 have lr := HR3.out.lt
 have r0 := HR3.out.cell' (i := 0) rfl
 have r1 := HR3.out.cell' (i := 1) rfl
 have r2 := HR3.out.cell' (i := 2) rfl
 have r3 := HR3.out.cell' (i := 3) rfl
 have q0 := HR3.out.frozen 0
 have q1 := HR3.out.frozen 1
 have q2 := HR3.out.frozen 2
 have q3 := HR3.out.frozen 3
 go_wp2_with fail
 have HW := wrap HR3.out H3.out G3.out (Nat.le_succ _) N3 (.int .i64 pr.2.err) (.slice A1 pr.2.vals.length c1) (.slice A2 pr.2.evs.length c2) (.bool pr.2.lost)
 generalize (((w3.setCell ⟨w.heap.size + 1, 0, none⟩ (.int .i64 pr.2.err)).setCell ⟨w.heap.size + 1, 1, none⟩ (.slice A1 pr.2.vals.length c1)).setCell ⟨w.heap.size + 1, 2, none⟩ (.slice A2 pr.2.evs.length c2)).setCell ⟨w.heap.size + 1, 3, none⟩ (.bool pr.2.lost) = wz at *
 have n0 := HW.box.cell' (i := 0) rfl
 have n1 := HW.box.cell' (i := 1) rfl
 have n2 := HW.box.cell' (i := 2) rfl
 have n3 := HW.box.cell' (i := 3) rfl
 refine bodyPost_ret (v := .agg #[.int .i64 pr.2.err, .slice A1 pr.2.vals.length c1, .slice A2 pr.2.evs.length c2, .bool pr.2.lost]) (by simp [results, Tryz.results21, go_sem, n0, n1, n2, n3]) rfl ?_
 exact ⟨A1, c1, A2, c2, rfl, (HW.seq l2 HS1.out).from_ (by omega), (HW.seq l2 HS2.out).from_ (by omega), S', HW.tab, HW.gone⟩
set_option maxRecDepth 100000 in
set_option maxHeartbeats 2000000 in
theorem shut4 (user : ByteArray) (id st pr ttl : Int) (A : Option Addr) (c : Nat) (us : List ByteArray) (h : Tab w base S m a) (ho : a.Ok b) (_hb : b ≤ 380) (hbw : base ≤ w.heap.size) {who : Nat} (hw : who < 8) (hin : OpW.In ⟨4, user, id, st, pr, ttl, A, c, us⟩ w) (hg : goodB ⟨4, user, id, st, pr, ttl, A, c, us⟩ = true) (hcl : a.closed = true) :
  Calls Tryz.prog 21 #[.pointer (some ⟨m, 0, none⟩), .int .i64 (who : Int), .agg #[.int .i64 4, .string user, .int .i64 id, .int .i64 st, .int .i64 pr, .int .u64 ttl, .slice A us.length c]] w (Polled w base S m (a.ask who ⟨4, user, id, st, pr, ttl, A, c, us⟩).1 (a.ask who ⟨4, user, id, st, pr, ttl, A, c, us⟩).2) := by
 rw [show a.ask who ⟨4, user, id, st, pr, ttl, A, c, us⟩ = (a, Rep.of 5) from by simp [Mo.ask, hcl]]
 have hw2 : (decide ((0 : Int) ≤ (who : Int)) && decide ((who : Int) ≤ 7)) = true := by simp; omega
 have bb := ((Below.refl w.heap.size w).alloc (Nat.le_refl _) (.cells #[.int .i64 4, .string user, .int .i64 id, .int .i64 st, .int .i64 pr, .int .u64 ttl, .slice A us.length c] 37)).alloc (by simp) (.cells #[.int .i64 0, .slice none 0 0, .slice none 0 0, .bool false] 43)
 have HX1 : Hid (Is ((w.alloc (.cells #[.int .i64 4, .string user, .int .i64 id, .int .i64 st, .int .i64 pr, .int .u64 ttl, .slice A us.length c] 37)).alloc (.cells #[.int .i64 0, .slice none 0 0, .slice none 0 0, .bool false] 43)) w.heap.size 37 #[.int .i64 4, .string user, .int .i64 id, .int .i64 st, .int .i64 pr, .int .u64 ttl, .slice A us.length c]) := (Is.new w _ _ rfl).alloc _
 have HR1 : Hid (Is ((w.alloc (.cells #[.int .i64 4, .string user, .int .i64 id, .int .i64 st, .int .i64 pr, .int .u64 ttl, .slice A us.length c] 37)).alloc (.cells #[.int .i64 0, .slice none 0 0, .slice none 0 0, .bool false] 43)) (w.heap.size + 1) 43 #[.int .i64 0, .slice none 0 0, .slice none 0 0, .bool false]) := Is.new _ _ _ (by simp)
 have H1 := Lib.hid (h.below bb)
 have G1 : Hid (Gone w S _ S) := Gone.of_below bb
 have IN1 := Lib.hid (hin.below bb)
 have hok := Lib.hid h.ok
 have HO := Lib.hid ho
 have HU := Lib.hid hin
 have hbw1 := Nat.le_trans hbw bb.size
 have NX : Hid (¬ S w.heap.size) := fun hx => by have := (hok.out _ hx).2; omega
 have NR : Hid (¬ S (w.heap.size + 1)) := fun hx => by have := (hok.out _ hx).2; omega
 clear bb h ho hin
 go_enter Tryz.func21, Tryz.ntmps21
 go_wp2_with fail
 generalize ((w.alloc (.cells #[.int .i64 4, .string user, .int .i64 id, .int .i64 st, .int .i64 pr, .int .u64 ttl, .slice A us.length c] 37)).alloc (.cells #[.int .i64 0, .slice none 0 0, .slice none 0 0, .bool false] 43)) = w1 at *
 refine (bad ⟨4, user, id, st, pr, ttl, A, c, us⟩ IN1.out (r := false) (by rw [hg]; rfl)).mono ?_
 rintro e w2 ⟨rfl, b2⟩
 have HX2 := Lib.hid (HX1.out.below b2 HX1.out.lt)
 have HR2 := Lib.hid (HR1.out.below b2 HR1.out.lt)
 have H2 := Lib.hid (H1.out.below b2)
 have G2 := Lib.hid (G1.out.trans (Gone.of_below b2))
 have IN2 := Lib.hid (IN1.out.below b2)
 have hbw2 := Nat.le_trans hbw1 b2.size
 clear b2 HX1 HR1 H1 G1 IN1
 go_wp2_with fail
 refine (within _ _ _ true hw2 _).mono ?_
 rintro e w2' ⟨rfl, rfl⟩
 have x0 : w2.cell? ⟨w.heap.size, 0, none⟩ = some (.int .i64 4) := HX2.out.cell' rfl
 have x1 : w2.cell? ⟨w.heap.size, 1, none⟩ = some (.string user) := HX2.out.cell' rfl
 have x2 : w2.cell? ⟨w.heap.size, 2, none⟩ = some (.int .i64 id) := HX2.out.cell' rfl
 have x3 : w2.cell? ⟨w.heap.size, 3, none⟩ = some (.int .i64 st) := HX2.out.cell' rfl
 have x4 : w2.cell? ⟨w.heap.size, 4, none⟩ = some (.int .i64 pr) := HX2.out.cell' rfl
 have x5 : w2.cell? ⟨w.heap.size, 5, none⟩ = some (.int .u64 ttl) := HX2.out.cell' rfl
 have x6 : w2.cell? ⟨w.heap.size, 6, none⟩ = some (.slice A us.length c) := HX2.out.cell' rfl
 have lx := HX2.out.lt
 obtain ⟨t, c', arr, p, g, Sk, hV⟩ := H2.out
 have HV := Lib.hid hV
 have d4 : w2.cell? ⟨m, 4, none⟩ = some (.bool a.closed) := hV.box.cell' rfl
 have lm := hV.box.lt
 rw [hcl] at d4
 clear hV
 have lr := HR2.out.lt
 have r0 := HR2.out.cell' (i := 0) rfl
 have r1 := HR2.out.cell' (i := 1) rfl
 have r2 := HR2.out.cell' (i := 2) rfl
 have r3 := HR2.out.cell' (i := 3) rfl
 have q0 := HR2.out.frozen 0
 have q1 := HR2.out.frozen 1
 have q2 := HR2.out.frozen 2
 have q3 := HR2.out.frozen 3
 go_wp2_with fail
 have HW := wrap HR2.out HV.out.tab G2.out (Nat.le_succ _) NR.out (.int .i64 5) (.slice none 0 0) (.slice none 0 0) (.bool false)
 generalize (((w2.setCell ⟨w.heap.size + 1, 0, none⟩ (.int .i64 5)).setCell ⟨w.heap.size + 1, 1, none⟩ (.slice none 0 0)).setCell ⟨w.heap.size + 1, 2, none⟩ (.slice none 0 0)).setCell ⟨w.heap.size + 1, 3, none⟩ (.bool false) = wz at *
 have n0 := HW.box.cell' (i := 0) rfl
 have n1 := HW.box.cell' (i := 1) rfl
 have n2 := HW.box.cell' (i := 2) rfl
 have n3 := HW.box.cell' (i := 3) rfl
 refine bodyPost_ret (v := .agg #[.int .i64 5, .slice none 0 0, .slice none 0 0, .bool false]) (by simp [results, Tryz.results21, go_sem, n0, n1, n2, n3]) rfl ?_
 exact ⟨none, 0, none, 0, rfl, fun h => absurd rfl h, fun h => absurd rfl h, S, HW.tab, HW.gone⟩
set_option maxRecDepth 100000 in
set_option maxHeartbeats 2000000 in
theorem shut5 (user : ByteArray) (id st pr ttl : Int) (A : Option Addr) (c : Nat) (us : List ByteArray) (h : Tab w base S m a) (ho : a.Ok b) (_hb : b ≤ 380) (hbw : base ≤ w.heap.size) {who : Nat} (hw : who < 8) (hin : OpW.In ⟨5, user, id, st, pr, ttl, A, c, us⟩ w) (hg : goodB ⟨5, user, id, st, pr, ttl, A, c, us⟩ = true) (hcl : a.closed = true) :
  Calls Tryz.prog 21 #[.pointer (some ⟨m, 0, none⟩), .int .i64 (who : Int), .agg #[.int .i64 5, .string user, .int .i64 id, .int .i64 st, .int .i64 pr, .int .u64 ttl, .slice A us.length c]] w (Polled w base S m (a.ask who ⟨5, user, id, st, pr, ttl, A, c, us⟩).1 (a.ask who ⟨5, user, id, st, pr, ttl, A, c, us⟩).2) := by
 rw [show a.ask who ⟨5, user, id, st, pr, ttl, A, c, us⟩ = (a, Rep.of 5) from by simp [Mo.ask, hcl]]
 have hw2 : (decide ((0 : Int) ≤ (who : Int)) && decide ((who : Int) ≤ 7)) = true := by simp; omega
 have bb := ((Below.refl w.heap.size w).alloc (Nat.le_refl _) (.cells #[.int .i64 5, .string user, .int .i64 id, .int .i64 st, .int .i64 pr, .int .u64 ttl, .slice A us.length c] 37)).alloc (by simp) (.cells #[.int .i64 0, .slice none 0 0, .slice none 0 0, .bool false] 43)
 have HX1 : Hid (Is ((w.alloc (.cells #[.int .i64 5, .string user, .int .i64 id, .int .i64 st, .int .i64 pr, .int .u64 ttl, .slice A us.length c] 37)).alloc (.cells #[.int .i64 0, .slice none 0 0, .slice none 0 0, .bool false] 43)) w.heap.size 37 #[.int .i64 5, .string user, .int .i64 id, .int .i64 st, .int .i64 pr, .int .u64 ttl, .slice A us.length c]) := (Is.new w _ _ rfl).alloc _
 have HR1 : Hid (Is ((w.alloc (.cells #[.int .i64 5, .string user, .int .i64 id, .int .i64 st, .int .i64 pr, .int .u64 ttl, .slice A us.length c] 37)).alloc (.cells #[.int .i64 0, .slice none 0 0, .slice none 0 0, .bool false] 43)) (w.heap.size + 1) 43 #[.int .i64 0, .slice none 0 0, .slice none 0 0, .bool false]) := Is.new _ _ _ (by simp)
 have H1 := Lib.hid (h.below bb)
 have G1 : Hid (Gone w S _ S) := Gone.of_below bb
 have IN1 := Lib.hid (hin.below bb)
 have hok := Lib.hid h.ok
 have HO := Lib.hid ho
 have HU := Lib.hid hin
 have hbw1 := Nat.le_trans hbw bb.size
 have NX : Hid (¬ S w.heap.size) := fun hx => by have := (hok.out _ hx).2; omega
 have NR : Hid (¬ S (w.heap.size + 1)) := fun hx => by have := (hok.out _ hx).2; omega
 clear bb h ho hin
 go_enter Tryz.func21, Tryz.ntmps21
 go_wp2_with fail
 generalize ((w.alloc (.cells #[.int .i64 5, .string user, .int .i64 id, .int .i64 st, .int .i64 pr, .int .u64 ttl, .slice A us.length c] 37)).alloc (.cells #[.int .i64 0, .slice none 0 0, .slice none 0 0, .bool false] 43)) = w1 at *
 refine (bad ⟨5, user, id, st, pr, ttl, A, c, us⟩ IN1.out (r := false) (by rw [hg]; rfl)).mono ?_
 rintro e w2 ⟨rfl, b2⟩
 have HX2 := Lib.hid (HX1.out.below b2 HX1.out.lt)
 have HR2 := Lib.hid (HR1.out.below b2 HR1.out.lt)
 have H2 := Lib.hid (H1.out.below b2)
 have G2 := Lib.hid (G1.out.trans (Gone.of_below b2))
 have IN2 := Lib.hid (IN1.out.below b2)
 have hbw2 := Nat.le_trans hbw1 b2.size
 clear b2 HX1 HR1 H1 G1 IN1
 go_wp2_with fail
 refine (within _ _ _ true hw2 _).mono ?_
 rintro e w2' ⟨rfl, rfl⟩
 have x0 : w2.cell? ⟨w.heap.size, 0, none⟩ = some (.int .i64 5) := HX2.out.cell' rfl
 have x1 : w2.cell? ⟨w.heap.size, 1, none⟩ = some (.string user) := HX2.out.cell' rfl
 have x2 : w2.cell? ⟨w.heap.size, 2, none⟩ = some (.int .i64 id) := HX2.out.cell' rfl
 have x3 : w2.cell? ⟨w.heap.size, 3, none⟩ = some (.int .i64 st) := HX2.out.cell' rfl
 have x4 : w2.cell? ⟨w.heap.size, 4, none⟩ = some (.int .i64 pr) := HX2.out.cell' rfl
 have x5 : w2.cell? ⟨w.heap.size, 5, none⟩ = some (.int .u64 ttl) := HX2.out.cell' rfl
 have x6 : w2.cell? ⟨w.heap.size, 6, none⟩ = some (.slice A us.length c) := HX2.out.cell' rfl
 have lx := HX2.out.lt
 obtain ⟨t, c', arr, p, g, Sk, hV⟩ := H2.out
 have HV := Lib.hid hV
 have d4 : w2.cell? ⟨m, 4, none⟩ = some (.bool a.closed) := hV.box.cell' rfl
 have lm := hV.box.lt
 rw [hcl] at d4
 clear hV
 have lr := HR2.out.lt
 have r0 := HR2.out.cell' (i := 0) rfl
 have r1 := HR2.out.cell' (i := 1) rfl
 have r2 := HR2.out.cell' (i := 2) rfl
 have r3 := HR2.out.cell' (i := 3) rfl
 have q0 := HR2.out.frozen 0
 have q1 := HR2.out.frozen 1
 have q2 := HR2.out.frozen 2
 have q3 := HR2.out.frozen 3
 go_wp2_with fail
 have HW := wrap HR2.out HV.out.tab G2.out (Nat.le_succ _) NR.out (.int .i64 5) (.slice none 0 0) (.slice none 0 0) (.bool false)
 generalize (((w2.setCell ⟨w.heap.size + 1, 0, none⟩ (.int .i64 5)).setCell ⟨w.heap.size + 1, 1, none⟩ (.slice none 0 0)).setCell ⟨w.heap.size + 1, 2, none⟩ (.slice none 0 0)).setCell ⟨w.heap.size + 1, 3, none⟩ (.bool false) = wz at *
 have n0 := HW.box.cell' (i := 0) rfl
 have n1 := HW.box.cell' (i := 1) rfl
 have n2 := HW.box.cell' (i := 2) rfl
 have n3 := HW.box.cell' (i := 3) rfl
 refine bodyPost_ret (v := .agg #[.int .i64 5, .slice none 0 0, .slice none 0 0, .bool false]) (by simp [results, Tryz.results21, go_sem, n0, n1, n2, n3]) rfl ?_
 exact ⟨none, 0, none, 0, rfl, fun h => absurd rfl h, fun h => absurd rfl h, S, HW.tab, HW.gone⟩
set_option maxRecDepth 100000 in
set_option maxHeartbeats 2000000 in
theorem shut6 (user : ByteArray) (id st pr ttl : Int) (A : Option Addr) (c : Nat) (us : List ByteArray) (h : Tab w base S m a) (ho : a.Ok b) (_hb : b ≤ 380) (hbw : base ≤ w.heap.size) {who : Nat} (hw : who < 8) (hin : OpW.In ⟨6, user, id, st, pr, ttl, A, c, us⟩ w) (hg : goodB ⟨6, user, id, st, pr, ttl, A, c, us⟩ = true) (hcl : a.closed = true) :
  Calls Tryz.prog 21 #[.pointer (some ⟨m, 0, none⟩), .int .i64 (who : Int), .agg #[.int .i64 6, .string user, .int .i64 id, .int .i64 st, .int .i64 pr, .int .u64 ttl, .slice A us.length c]] w (Polled w base S m (a.ask who ⟨6, user, id, st, pr, ttl, A, c, us⟩).1 (a.ask who ⟨6, user, id, st, pr, ttl, A, c, us⟩).2) := by
 rw [show a.ask who ⟨6, user, id, st, pr, ttl, A, c, us⟩ = (a, Rep.of 5) from by simp [Mo.ask, hcl]]
 have hw2 : (decide ((0 : Int) ≤ (who : Int)) && decide ((who : Int) ≤ 7)) = true := by simp; omega
 have bb := ((Below.refl w.heap.size w).alloc (Nat.le_refl _) (.cells #[.int .i64 6, .string user, .int .i64 id, .int .i64 st, .int .i64 pr, .int .u64 ttl, .slice A us.length c] 37)).alloc (by simp) (.cells #[.int .i64 0, .slice none 0 0, .slice none 0 0, .bool false] 43)
 have HX1 : Hid (Is ((w.alloc (.cells #[.int .i64 6, .string user, .int .i64 id, .int .i64 st, .int .i64 pr, .int .u64 ttl, .slice A us.length c] 37)).alloc (.cells #[.int .i64 0, .slice none 0 0, .slice none 0 0, .bool false] 43)) w.heap.size 37 #[.int .i64 6, .string user, .int .i64 id, .int .i64 st, .int .i64 pr, .int .u64 ttl, .slice A us.length c]) := (Is.new w _ _ rfl).alloc _
 have HR1 : Hid (Is ((w.alloc (.cells #[.int .i64 6, .string user, .int .i64 id, .int .i64 st, .int .i64 pr, .int .u64 ttl, .slice A us.length c] 37)).alloc (.cells #[.int .i64 0, .slice none 0 0, .slice none 0 0, .bool false] 43)) (w.heap.size + 1) 43 #[.int .i64 0, .slice none 0 0, .slice none 0 0, .bool false]) := Is.new _ _ _ (by simp)
 have H1 := Lib.hid (h.below bb)
 have G1 : Hid (Gone w S _ S) := Gone.of_below bb
 have IN1 := Lib.hid (hin.below bb)
 have hok := Lib.hid h.ok
 have HO := Lib.hid ho
 have HU := Lib.hid hin
 have hbw1 := Nat.le_trans hbw bb.size
 have NX : Hid (¬ S w.heap.size) := fun hx => by have := (hok.out _ hx).2; omega
 have NR : Hid (¬ S (w.heap.size + 1)) := fun hx => by have := (hok.out _ hx).2; omega
 clear bb h ho hin
 go_enter Tryz.func21, Tryz.ntmps21
 go_wp2_with fail
 generalize ((w.alloc (.cells #[.int .i64 6, .string user, .int .i64 id, .int .i64 st, .int .i64 pr, .int .u64 ttl, .slice A us.length c] 37)).alloc (.cells #[.int .i64 0, .slice none 0 0, .slice none 0 0, .bool false] 43)) = w1 at *
 refine (bad ⟨6, user, id, st, pr, ttl, A, c, us⟩ IN1.out (r := false) (by rw [hg]; rfl)).mono ?_
 rintro e w2 ⟨rfl, b2⟩
 have HX2 := Lib.hid (HX1.out.below b2 HX1.out.lt)
 have HR2 := Lib.hid (HR1.out.below b2 HR1.out.lt)
 have H2 := Lib.hid (H1.out.below b2)
 have G2 := Lib.hid (G1.out.trans (Gone.of_below b2))
 have IN2 := Lib.hid (IN1.out.below b2)
 have hbw2 := Nat.le_trans hbw1 b2.size
 clear b2 HX1 HR1 H1 G1 IN1
 go_wp2_with fail
 refine (within _ _ _ true hw2 _).mono ?_
 rintro e w2' ⟨rfl, rfl⟩
 have x0 : w2.cell? ⟨w.heap.size, 0, none⟩ = some (.int .i64 6) := HX2.out.cell' rfl
 have x1 : w2.cell? ⟨w.heap.size, 1, none⟩ = some (.string user) := HX2.out.cell' rfl
 have x2 : w2.cell? ⟨w.heap.size, 2, none⟩ = some (.int .i64 id) := HX2.out.cell' rfl
 have x3 : w2.cell? ⟨w.heap.size, 3, none⟩ = some (.int .i64 st) := HX2.out.cell' rfl
 have x4 : w2.cell? ⟨w.heap.size, 4, none⟩ = some (.int .i64 pr) := HX2.out.cell' rfl
 have x5 : w2.cell? ⟨w.heap.size, 5, none⟩ = some (.int .u64 ttl) := HX2.out.cell' rfl
 have x6 : w2.cell? ⟨w.heap.size, 6, none⟩ = some (.slice A us.length c) := HX2.out.cell' rfl
 have lx := HX2.out.lt
 obtain ⟨t, c', arr, p, g, Sk, hV⟩ := H2.out
 have HV := Lib.hid hV
 have d4 : w2.cell? ⟨m, 4, none⟩ = some (.bool a.closed) := hV.box.cell' rfl
 have lm := hV.box.lt
 rw [hcl] at d4
 clear hV
 have lr := HR2.out.lt
 have r0 := HR2.out.cell' (i := 0) rfl
 have r1 := HR2.out.cell' (i := 1) rfl
 have r2 := HR2.out.cell' (i := 2) rfl
 have r3 := HR2.out.cell' (i := 3) rfl
 have q0 := HR2.out.frozen 0
 have q1 := HR2.out.frozen 1
 have q2 := HR2.out.frozen 2
 have q3 := HR2.out.frozen 3
 go_wp2_with fail
 have HW := wrap HR2.out HV.out.tab G2.out (Nat.le_succ _) NR.out (.int .i64 5) (.slice none 0 0) (.slice none 0 0) (.bool false)
 generalize (((w2.setCell ⟨w.heap.size + 1, 0, none⟩ (.int .i64 5)).setCell ⟨w.heap.size + 1, 1, none⟩ (.slice none 0 0)).setCell ⟨w.heap.size + 1, 2, none⟩ (.slice none 0 0)).setCell ⟨w.heap.size + 1, 3, none⟩ (.bool false) = wz at *
 have n0 := HW.box.cell' (i := 0) rfl
 have n1 := HW.box.cell' (i := 1) rfl
 have n2 := HW.box.cell' (i := 2) rfl
 have n3 := HW.box.cell' (i := 3) rfl
 refine bodyPost_ret (v := .agg #[.int .i64 5, .slice none 0 0, .slice none 0 0, .bool false]) (by simp [results, Tryz.results21, go_sem, n0, n1, n2, n3]) rfl ?_
 exact ⟨none, 0, none, 0, rfl, fun h => absurd rfl h, fun h => absurd rfl h, S, HW.tab, HW.gone⟩
set_option maxRecDepth 100000 in
set_option maxHeartbeats 2000000 in
theorem shut7 (user : ByteArray) (id st pr ttl : Int) (A : Option Addr) (c : Nat) (us : List ByteArray) (h : Tab w base S m a) (ho : a.Ok b) (_hb : b ≤ 380) (hbw : base ≤ w.heap.size) {who : Nat} (hw : who < 8) (hin : OpW.In ⟨7, user, id, st, pr, ttl, A, c, us⟩ w) (hg : goodB ⟨7, user, id, st, pr, ttl, A, c, us⟩ = true) (hcl : a.closed = true) :
  Calls Tryz.prog 21 #[.pointer (some ⟨m, 0, none⟩), .int .i64 (who : Int), .agg #[.int .i64 7, .string user, .int .i64 id, .int .i64 st, .int .i64 pr, .int .u64 ttl, .slice A us.length c]] w (Polled w base S m (a.ask who ⟨7, user, id, st, pr, ttl, A, c, us⟩).1 (a.ask who ⟨7, user, id, st, pr, ttl, A, c, us⟩).2) := by
 rw [show a.ask who ⟨7, user, id, st, pr, ttl, A, c, us⟩ = (a, Rep.of 5) from by simp [Mo.ask, hcl]]
 have hw2 : (decide ((0 : Int) ≤ (who : Int)) && decide ((who : Int) ≤ 7)) = true := by simp; omega
 have bb := ((Below.refl w.heap.size w).alloc (Nat.le_refl _) (.cells #[.int .i64 7, .string user, .int .i64 id, .int .i64 st, .int .i64 pr, .int .u64 ttl, .slice A us.length c] 37)).alloc (by simp) (.cells #[.int .i64 0, .slice none 0 0, .slice none 0 0, .bool false] 43)
 have HX1 : Hid (Is ((w.alloc (.cells #[.int .i64 7, .string user, .int .i64 id, .int .i64 st, .int .i64 pr, .int .u64 ttl, .slice A us.length c] 37)).alloc (.cells #[.int .i64 0, .slice none 0 0, .slice none 0 0, .bool false] 43)) w.heap.size 37 #[.int .i64 7, .string user, .int .i64 id, .int .i64 st, .int .i64 pr, .int .u64 ttl, .slice A us.length c]) := (Is.new w _ _ rfl).alloc _
 have HR1 : Hid (Is ((w.alloc (.cells #[.int .i64 7, .string user, .int .i64 id, .int .i64 st, .int .i64 pr, .int .u64 ttl, .slice A us.length c] 37)).alloc (.cells #[.int .i64 0, .slice none 0 0, .slice none 0 0, .bool false] 43)) (w.heap.size + 1) 43 #[.int .i64 0, .slice none 0 0, .slice none 0 0, .bool false]) := Is.new _ _ _ (by simp)
 have H1 := Lib.hid (h.below bb)
 have G1 : Hid (Gone w S _ S) := Gone.of_below bb
 have IN1 := Lib.hid (hin.below bb)
 have hok := Lib.hid h.ok
 have HO := Lib.hid ho
 have HU := Lib.hid hin
 have hbw1 := Nat.le_trans hbw bb.size
 have NX : Hid (¬ S w.heap.size) := fun hx => by have := (hok.out _ hx).2; omega
 have NR : Hid (¬ S (w.heap.size + 1)) := fun hx => by have := (hok.out _ hx).2; omega
 clear bb h ho hin
 go_enter Tryz.func21, Tryz.ntmps21
 go_wp2_with fail
 generalize ((w.alloc (.cells #[.int .i64 7, .string user, .int .i64 id, .int .i64 st, .int .i64 pr, .int .u64 ttl, .slice A us.length c] 37)).alloc (.cells #[.int .i64 0, .slice none 0 0, .slice none 0 0, .bool false] 43)) = w1 at *
 refine (bad ⟨7, user, id, st, pr, ttl, A, c, us⟩ IN1.out (r := false) (by rw [hg]; rfl)).mono ?_
 rintro e w2 ⟨rfl, b2⟩
 have HX2 := Lib.hid (HX1.out.below b2 HX1.out.lt)
 have HR2 := Lib.hid (HR1.out.below b2 HR1.out.lt)
 have H2 := Lib.hid (H1.out.below b2)
 have G2 := Lib.hid (G1.out.trans (Gone.of_below b2))
 have IN2 := Lib.hid (IN1.out.below b2)
 have hbw2 := Nat.le_trans hbw1 b2.size
 clear b2 HX1 HR1 H1 G1 IN1
 go_wp2_with fail
 refine (within _ _ _ true hw2 _).mono ?_
 rintro e w2' ⟨rfl, rfl⟩
 have x0 : w2.cell? ⟨w.heap.size, 0, none⟩ = some (.int .i64 7) := HX2.out.cell' rfl
 have x1 : w2.cell? ⟨w.heap.size, 1, none⟩ = some (.string user) := HX2.out.cell' rfl
 have x2 : w2.cell? ⟨w.heap.size, 2, none⟩ = some (.int .i64 id) := HX2.out.cell' rfl
 have x3 : w2.cell? ⟨w.heap.size, 3, none⟩ = some (.int .i64 st) := HX2.out.cell' rfl
 have x4 : w2.cell? ⟨w.heap.size, 4, none⟩ = some (.int .i64 pr) := HX2.out.cell' rfl
 have x5 : w2.cell? ⟨w.heap.size, 5, none⟩ = some (.int .u64 ttl) := HX2.out.cell' rfl
 have x6 : w2.cell? ⟨w.heap.size, 6, none⟩ = some (.slice A us.length c) := HX2.out.cell' rfl
 have lx := HX2.out.lt
 obtain ⟨t, c', arr, p, g, Sk, hV⟩ := H2.out
 have HV := Lib.hid hV
 have d4 : w2.cell? ⟨m, 4, none⟩ = some (.bool a.closed) := hV.box.cell' rfl
 have lm := hV.box.lt
 rw [hcl] at d4
 clear hV
 have lr := HR2.out.lt
 have r0 := HR2.out.cell' (i := 0) rfl
 have r1 := HR2.out.cell' (i := 1) rfl
 have r2 := HR2.out.cell' (i := 2) rfl
 have r3 := HR2.out.cell' (i := 3) rfl
 have q0 := HR2.out.frozen 0
 have q1 := HR2.out.frozen 1
 have q2 := HR2.out.frozen 2
 have q3 := HR2.out.frozen 3
 go_wp2_with fail
 have HW := wrap HR2.out HV.out.tab G2.out (Nat.le_succ _) NR.out (.int .i64 5) (.slice none 0 0) (.slice none 0 0) (.bool false)
 generalize (((w2.setCell ⟨w.heap.size + 1, 0, none⟩ (.int .i64 5)).setCell ⟨w.heap.size + 1, 1, none⟩ (.slice none 0 0)).setCell ⟨w.heap.size + 1, 2, none⟩ (.slice none 0 0)).setCell ⟨w.heap.size + 1, 3, none⟩ (.bool false) = wz at *
 have n0 := HW.box.cell' (i := 0) rfl
 have n1 := HW.box.cell' (i := 1) rfl
 have n2 := HW.box.cell' (i := 2) rfl
 have n3 := HW.box.cell' (i := 3) rfl
 refine bodyPost_ret (v := .agg #[.int .i64 5, .slice none 0 0, .slice none 0 0, .bool false]) (by simp [results, Tryz.results21, go_sem, n0, n1, n2, n3]) rfl ?_
 exact ⟨none, 0, none, 0, rfl, fun h => absurd rfl h, fun h => absurd rfl h, S, HW.tab, HW.gone⟩
set_option maxRecDepth 100000 in
set_option maxHeartbeats 2000000 in
theorem shut9 (user : ByteArray) (id st pr ttl : Int) (A : Option Addr) (c : Nat) (us : List ByteArray) (h : Tab w base S m a) (ho : a.Ok b) (_hb : b ≤ 380) (hbw : base ≤ w.heap.size) {who : Nat} (hw : who < 8) (hin : OpW.In ⟨9, user, id, st, pr, ttl, A, c, us⟩ w) (hg : goodB ⟨9, user, id, st, pr, ttl, A, c, us⟩ = true) (hcl : a.closed = true) :
  Calls Tryz.prog 21 #[.pointer (some ⟨m, 0, none⟩), .int .i64 (who : Int), .agg #[.int .i64 9, .string user, .int .i64 id, .int .i64 st, .int .i64 pr, .int .u64 ttl, .slice A us.length c]] w (Polled w base S m (a.ask who ⟨9, user, id, st, pr, ttl, A, c, us⟩).1 (a.ask who ⟨9, user, id, st, pr, ttl, A, c, us⟩).2) := by
 rw [show a.ask who ⟨9, user, id, st, pr, ttl, A, c, us⟩ = (a, Rep.of 5) from by simp [Mo.ask, hcl]]
 have hw2 : (decide ((0 : Int) ≤ (who : Int)) && decide ((who : Int) ≤ 7)) = true := by simp; omega
 have bb := ((Below.refl w.heap.size w).alloc (Nat.le_refl _) (.cells #[.int .i64 9, .string user, .int .i64 id, .int .i64 st, .int .i64 pr, .int .u64 ttl, .slice A us.length c] 37)).alloc (by simp) (.cells #[.int .i64 0, .slice none 0 0, .slice none 0 0, .bool false] 43)
 have HX1 : Hid (Is ((w.alloc (.cells #[.int .i64 9, .string user, .int .i64 id, .int .i64 st, .int .i64 pr, .int .u64 ttl, .slice A us.length c] 37)).alloc (.cells #[.int .i64 0, .slice none 0 0, .slice none 0 0, .bool false] 43)) w.heap.size 37 #[.int .i64 9, .string user, .int .i64 id, .int .i64 st, .int .i64 pr, .int .u64 ttl, .slice A us.length c]) := (Is.new w _ _ rfl).alloc _
 have HR1 : Hid (Is ((w.alloc (.cells #[.int .i64 9, .string user, .int .i64 id, .int .i64 st, .int .i64 pr, .int .u64 ttl, .slice A us.length c] 37)).alloc (.cells #[.int .i64 0, .slice none 0 0, .slice none 0 0, .bool false] 43)) (w.heap.size + 1) 43 #[.int .i64 0, .slice none 0 0, .slice none 0 0, .bool false]) := Is.new _ _ _ (by simp)
 have H1 := Lib.hid (h.below bb)
 have G1 : Hid (Gone w S _ S) := Gone.of_below bb
 have IN1 := Lib.hid (hin.below bb)
 have hok := Lib.hid h.ok
 have HO := Lib.hid ho
 have HU := Lib.hid hin
 have hbw1 := Nat.le_trans hbw bb.size
 have NX : Hid (¬ S w.heap.size) := fun hx => by have := (hok.out _ hx).2; omega
 have NR : Hid (¬ S (w.heap.size + 1)) := fun hx => by have := (hok.out _ hx).2; omega
 clear bb h ho hin
 go_enter Tryz.func21, Tryz.ntmps21
 go_wp2_with fail
 generalize ((w.alloc (.cells #[.int .i64 9, .string user, .int .i64 id, .int .i64 st, .int .i64 pr, .int .u64 ttl, .slice A us.length c] 37)).alloc (.cells #[.int .i64 0, .slice none 0 0, .slice none 0 0, .bool false] 43)) = w1 at *
 refine (bad ⟨9, user, id, st, pr, ttl, A, c, us⟩ IN1.out (r := false) (by rw [hg]; rfl)).mono ?_
 rintro e w2 ⟨rfl, b2⟩
 have HX2 := Lib.hid (HX1.out.below b2 HX1.out.lt)
 have HR2 := Lib.hid (HR1.out.below b2 HR1.out.lt)
 have H2 := Lib.hid (H1.out.below b2)
 have G2 := Lib.hid (G1.out.trans (Gone.of_below b2))
 have IN2 := Lib.hid (IN1.out.below b2)
 have hbw2 := Nat.le_trans hbw1 b2.size
 clear b2 HX1 HR1 H1 G1 IN1
 go_wp2_with fail
 refine (within _ _ _ true hw2 _).mono ?_
 rintro e w2' ⟨rfl, rfl⟩
 have x0 : w2.cell? ⟨w.heap.size, 0, none⟩ = some (.int .i64 9) := HX2.out.cell' rfl
 have x1 : w2.cell? ⟨w.heap.size, 1, none⟩ = some (.string user) := HX2.out.cell' rfl
 have x2 : w2.cell? ⟨w.heap.size, 2, none⟩ = some (.int .i64 id) := HX2.out.cell' rfl
 have x3 : w2.cell? ⟨w.heap.size, 3, none⟩ = some (.int .i64 st) := HX2.out.cell' rfl
 have x4 : w2.cell? ⟨w.heap.size, 4, none⟩ = some (.int .i64 pr) := HX2.out.cell' rfl
 have x5 : w2.cell? ⟨w.heap.size, 5, none⟩ = some (.int .u64 ttl) := HX2.out.cell' rfl
 have x6 : w2.cell? ⟨w.heap.size, 6, none⟩ = some (.slice A us.length c) := HX2.out.cell' rfl
 have lx := HX2.out.lt
 obtain ⟨t, c', arr, p, g, Sk, hV⟩ := H2.out
 have HV := Lib.hid hV
 have d4 : w2.cell? ⟨m, 4, none⟩ = some (.bool a.closed) := hV.box.cell' rfl
 have lm := hV.box.lt
 rw [hcl] at d4
 clear hV
 have lr := HR2.out.lt
 have r0 := HR2.out.cell' (i := 0) rfl
 have r1 := HR2.out.cell' (i := 1) rfl
 have r2 := HR2.out.cell' (i := 2) rfl
 have r3 := HR2.out.cell' (i := 3) rfl
 have q0 := HR2.out.frozen 0
 have q1 := HR2.out.frozen 1
 have q2 := HR2.out.frozen 2
 have q3 := HR2.out.frozen 3
 go_wp2_with fail
 have HW := wrap HR2.out HV.out.tab G2.out (Nat.le_succ _) NR.out (.int .i64 5) (.slice none 0 0) (.slice none 0 0) (.bool false)
 generalize (((w2.setCell ⟨w.heap.size + 1, 0, none⟩ (.int .i64 5)).setCell ⟨w.heap.size + 1, 1, none⟩ (.slice none 0 0)).setCell ⟨w.heap.size + 1, 2, none⟩ (.slice none 0 0)).setCell ⟨w.heap.size + 1, 3, none⟩ (.bool false) = wz at *
 have n0 := HW.box.cell' (i := 0) rfl
 have n1 := HW.box.cell' (i := 1) rfl
 have n2 := HW.box.cell' (i := 2) rfl
 have n3 := HW.box.cell' (i := 3) rfl
 refine bodyPost_ret (v := .agg #[.int .i64 5, .slice none 0 0, .slice none 0 0, .bool false]) (by simp [results, Tryz.results21, go_sem, n0, n1, n2, n3]) rfl ?_
 exact ⟨none, 0, none, 0, rfl, fun h => absurd rfl h, fun h => absurd rfl h, S, HW.tab, HW.gone⟩
set_option maxRecDepth 100000 in
set_option maxHeartbeats 2000000 in
theorem do4 (user : ByteArray) (id st pr ttl : Int) (A : Option Addr) (c : Nat) (us : List ByteArray) (h : Tab w base S m a) (ho : a.Ok b) (hb : b ≤ 380) (hbw : base ≤ w.heap.size) {who : Nat} (hw : who < 8) (hin : OpW.In ⟨4, user, id, st, pr, ttl, A, c, us⟩ w) (hg : goodB ⟨4, user, id, st, pr, ttl, A, c, us⟩ = true) (hcl : a.closed = false) :
  Calls Tryz.prog 21 #[.pointer (some ⟨m, 0, none⟩), .int .i64 (who : Int), .agg #[.int .i64 4, .string user, .int .i64 id, .int .i64 st, .int .i64 pr, .int .u64 ttl, .slice A us.length c]] w (Polled w base S m (a.ask who ⟨4, user, id, st, pr, ttl, A, c, us⟩).1 (a.ask who ⟨4, user, id, st, pr, ttl, A, c, us⟩).2) := by
 rw [show a.ask who ⟨4, user, id, st, pr, ttl, A, c, us⟩ = (a, ⟨0, [user].map a.pres, [], false⟩) from by simp [Mo.ask, hcl]]
 have hw2 : (decide ((0 : Int) ≤ (who : Int)) && decide ((who : Int) ≤ 7)) = true := by simp; omega
 have bb := ((Below.refl w.heap.size w).alloc (Nat.le_refl _) (.cells #[.int .i64 4, .string user, .int .i64 id, .int .i64 st, .int .i64 pr, .int .u64 ttl, .slice A us.length c] 37)).alloc (by simp) (.cells #[.int .i64 0, .slice none 0 0, .slice none 0 0, .bool false] 43)
 have HX1 : Hid (Is ((w.alloc (.cells #[.int .i64 4, .string user, .int .i64 id, .int .i64 st, .int .i64 pr, .int .u64 ttl, .slice A us.length c] 37)).alloc (.cells #[.int .i64 0, .slice none 0 0, .slice none 0 0, .bool false] 43)) w.heap.size 37 #[.int .i64 4, .string user, .int .i64 id, .int .i64 st, .int .i64 pr, .int .u64 ttl, .slice A us.length c]) := (Is.new w _ _ rfl).alloc _
 have HR1 : Hid (Is ((w.alloc (.cells #[.int .i64 4, .string user, .int .i64 id, .int .i64 st, .int .i64 pr, .int .u64 ttl, .slice A us.length c] 37)).alloc (.cells #[.int .i64 0, .slice none 0 0, .slice none 0 0, .bool false] 43)) (w.heap.size + 1) 43 #[.int .i64 0, .slice none 0 0, .slice none 0 0, .bool false]) := Is.new _ _ _ (by simp)
 have H1 := Lib.hid (h.below bb)
 have G1 : Hid (Gone w S _ S) := Gone.of_below bb
 have IN1 := Lib.hid (hin.below bb)
 have hok := Lib.hid h.ok
 have HO := Lib.hid ho
 have HU := Lib.hid hin
 have hbw1 := Nat.le_trans hbw bb.size
 have NX : Hid (¬ S w.heap.size) := fun hx => by have := (hok.out _ hx).2; omega
 have NR : Hid (¬ S (w.heap.size + 1)) := fun hx => by have := (hok.out _ hx).2; omega
 clear bb h ho hin
 go_enter Tryz.func21, Tryz.ntmps21
 go_wp2_with fail
 generalize ((w.alloc (.cells #[.int .i64 4, .string user, .int .i64 id, .int .i64 st, .int .i64 pr, .int .u64 ttl, .slice A us.length c] 37)).alloc (.cells #[.int .i64 0, .slice none 0 0, .slice none 0 0, .bool false] 43)) = w1 at *
 refine (bad ⟨4, user, id, st, pr, ttl, A, c, us⟩ IN1.out (r := false) (by rw [hg]; rfl)).mono ?_
 rintro e w2 ⟨rfl, b2⟩
 have HX2 := Lib.hid (HX1.out.below b2 HX1.out.lt)
 have HR2 := Lib.hid (HR1.out.below b2 HR1.out.lt)
 have H2 := Lib.hid (H1.out.below b2)
 have G2 := Lib.hid (G1.out.trans (Gone.of_below b2))
 have IN2 := Lib.hid (IN1.out.below b2)
 have hbw2 := Nat.le_trans hbw1 b2.size
 clear b2 HX1 HR1 H1 G1 IN1
 go_wp2_with fail
 refine (within _ _ _ true hw2 _).mono ?_
 rintro e w2' ⟨rfl, rfl⟩
 have x0 : w2.cell? ⟨w.heap.size, 0, none⟩ = some (.int .i64 4) := HX2.out.cell' rfl
 have x1 : w2.cell? ⟨w.heap.size, 1, none⟩ = some (.string user) := HX2.out.cell' rfl
 have x2 : w2.cell? ⟨w.heap.size, 2, none⟩ = some (.int .i64 id) := HX2.out.cell' rfl
 have x3 : w2.cell? ⟨w.heap.size, 3, none⟩ = some (.int .i64 st) := HX2.out.cell' rfl
 have x4 : w2.cell? ⟨w.heap.size, 4, none⟩ = some (.int .i64 pr) := HX2.out.cell' rfl
 have x5 : w2.cell? ⟨w.heap.size, 5, none⟩ = some (.int .u64 ttl) := HX2.out.cell' rfl
 have x6 : w2.cell? ⟨w.heap.size, 6, none⟩ = some (.slice A us.length c) := HX2.out.cell' rfl
 have lx := HX2.out.lt
 obtain ⟨t, c', arr, p, g, Sk, hV⟩ := H2.out
 have HV := Lib.hid hV
 have d4 : w2.cell? ⟨m, 4, none⟩ = some (.bool a.closed) := hV.box.cell' rfl
 have lm := hV.box.lt
 rw [hcl] at d4
 clear hV
 go_wp2_with fail
 refine (users4 user id st pr ttl (.slice A us.length c) w2).mono ?_
 rintro e w3 ⟨A3, c3, rfl, hs3, b3⟩
 have H3 := Lib.hid (H2.out.below b3)
 have HR3 := Lib.hid (HR2.out.below b3 HR2.out.lt)
 have G3 := Lib.hid (G2.out.trans (Gone.of_below b3))
 have HP := Lib.hid (presences H3.out HO.out hb [user] A3 c3 (hs3.from_ (Nat.zero_le _)) (by simp) (fun u hu => by obtain rfl := List.mem_singleton.1 hu; exact HU.out.user))
 have l3 : w.heap.size + 1 < w3.heap.size := Nat.lt_of_lt_of_le HR2.out.lt b3.size
 generalize [user].map a.pres = vs at *
 clear hs3 b3 HX2 HR2 H2 G2 HV x0 x1 x2 x3 x4 x5 x6 lx d4 lm
 go_wp2_with fail
 refine HP.out.mono ?_
 rintro e w4 ⟨A4, c4, rfl, hs4, b4⟩
 have H4 := Lib.hid (H3.out.below b4)
 have HR4 := Lib.hid (HR3.out.below b4 HR3.out.lt)
 have G4 := Lib.hid (G3.out.trans (Gone.of_below b4))
 have HS4 := Lib.hid hs4
 clear hs4 b4 H3 HR3 G3 HP
 have lr := HR4.out.lt
 have r0 := HR4.out.cell' (i := 0) rfl
 have r1 := HR4.out.cell' (i := 1) rfl
 have r2 := HR4.out.cell' (i := 2) rfl
 have r3 := HR4.out.cell' (i := 3) rfl
 have q0 := HR4.out.frozen 0
 have q1 := HR4.out.frozen 1
 have q2 := HR4.out.frozen 2
 have q3 := HR4.out.frozen 3
 go_wp2_with fail
 have HW := wrap HR4.out H4.out G4.out (Nat.le_succ _) NR.out (.int .i64 0) (.slice A4 vs.length c4) (.slice none 0 0) (.bool false)
 generalize (((w4.setCell ⟨w.heap.size + 1, 0, none⟩ (.int .i64 0)).setCell ⟨w.heap.size + 1, 1, none⟩ (.slice A4 vs.length c4)).setCell ⟨w.heap.size + 1, 2, none⟩ (.slice none 0 0)).setCell ⟨w.heap.size + 1, 3, none⟩ (.bool false) = wz at *
 have n0 := HW.box.cell' (i := 0) rfl
 have n1 := HW.box.cell' (i := 1) rfl
 have n2 := HW.box.cell' (i := 2) rfl
 have n3 := HW.box.cell' (i := 3) rfl
 refine bodyPost_ret (v := .agg #[.int .i64 0, .slice A4 vs.length c4, .slice none 0 0, .bool false]) (by simp [results, Tryz.results21, go_sem, n0, n1, n2, n3]) rfl ?_
 exact ⟨A4, c4, none, 0, rfl, (HW.seq l3 HS4.out).from_ (by omega), fun h => absurd rfl h, S, HW.tab, HW.gone⟩
set_option maxRecDepth 100000 in
set_option maxHeartbeats 2000000 in
theorem do5 (user : ByteArray) (id st pr ttl : Int) (A : Option Addr) (c : Nat) (us : List ByteArray) (h : Tab w base S m a) (ho : a.Ok b) (hb : b ≤ 380) (hbw : base ≤ w.heap.size) {who : Nat} (hw : who < 8) (hin : OpW.In ⟨5, user, id, st, pr, ttl, A, c, us⟩ w) (hg : goodB ⟨5, user, id, st, pr, ttl, A, c, us⟩ = true) (hcl : a.closed = false) :
  Calls Tryz.prog 21 #[.pointer (some ⟨m, 0, none⟩), .int .i64 (who : Int), .agg #[.int .i64 5, .string user, .int .i64 id, .int .i64 st, .int .i64 pr, .int .u64 ttl, .slice A us.length c]] w (Polled w base S m (a.ask who ⟨5, user, id, st, pr, ttl, A, c, us⟩).1 (a.ask who ⟨5, user, id, st, pr, ttl, A, c, us⟩).2) := by
 rw [show a.ask who ⟨5, user, id, st, pr, ttl, A, c, us⟩ = (a, ⟨0, us.map a.pres, [], false⟩) from by simp [Mo.ask, hcl]]
 have hw2 : (decide ((0 : Int) ≤ (who : Int)) && decide ((who : Int) ≤ 7)) = true := by simp; omega
 have bb := ((Below.refl w.heap.size w).alloc (Nat.le_refl _) (.cells #[.int .i64 5, .string user, .int .i64 id, .int .i64 st, .int .i64 pr, .int .u64 ttl, .slice A us.length c] 37)).alloc (by simp) (.cells #[.int .i64 0, .slice none 0 0, .slice none 0 0, .bool false] 43)
 have HX1 : Hid (Is ((w.alloc (.cells #[.int .i64 5, .string user, .int .i64 id, .int .i64 st, .int .i64 pr, .int .u64 ttl, .slice A us.length c] 37)).alloc (.cells #[.int .i64 0, .slice none 0 0, .slice none 0 0, .bool false] 43)) w.heap.size 37 #[.int .i64 5, .string user, .int .i64 id, .int .i64 st, .int .i64 pr, .int .u64 ttl, .slice A us.length c]) := (Is.new w _ _ rfl).alloc _
 have HR1 : Hid (Is ((w.alloc (.cells #[.int .i64 5, .string user, .int .i64 id, .int .i64 st, .int .i64 pr, .int .u64 ttl, .slice A us.length c] 37)).alloc (.cells #[.int .i64 0, .slice none 0 0, .slice none 0 0, .bool false] 43)) (w.heap.size + 1) 43 #[.int .i64 0, .slice none 0 0, .slice none 0 0, .bool false]) := Is.new _ _ _ (by simp)
 have H1 := Lib.hid (h.below bb)
 have G1 : Hid (Gone w S _ S) := Gone.of_below bb
 have IN1 := Lib.hid (hin.below bb)
 have hok := Lib.hid h.ok
 have HO := Lib.hid ho
 have HU := Lib.hid hin
 have hbw1 := Nat.le_trans hbw bb.size
 have NX : Hid (¬ S w.heap.size) := fun hx => by have := (hok.out _ hx).2; omega
 have NR : Hid (¬ S (w.heap.size + 1)) := fun hx => by have := (hok.out _ hx).2; omega
 clear bb h ho hin
 go_enter Tryz.func21, Tryz.ntmps21
 go_wp2_with fail
 generalize ((w.alloc (.cells #[.int .i64 5, .string user, .int .i64 id, .int .i64 st, .int .i64 pr, .int .u64 ttl, .slice A us.length c] 37)).alloc (.cells #[.int .i64 0, .slice none 0 0, .slice none 0 0, .bool false] 43)) = w1 at *
 refine (bad ⟨5, user, id, st, pr, ttl, A, c, us⟩ IN1.out (r := false) (by rw [hg]; rfl)).mono ?_
 rintro e w2 ⟨rfl, b2⟩
 have HX2 := Lib.hid (HX1.out.below b2 HX1.out.lt)
 have HR2 := Lib.hid (HR1.out.below b2 HR1.out.lt)
 have H2 := Lib.hid (H1.out.below b2)
 have G2 := Lib.hid (G1.out.trans (Gone.of_below b2))
 have IN2 := Lib.hid (IN1.out.below b2)
 have hbw2 := Nat.le_trans hbw1 b2.size
 clear b2 HX1 HR1 H1 G1 IN1
 go_wp2_with fail
 refine (within _ _ _ true hw2 _).mono ?_
 rintro e w2' ⟨rfl, rfl⟩
 have x0 : w2.cell? ⟨w.heap.size, 0, none⟩ = some (.int .i64 5) := HX2.out.cell' rfl
 have x1 : w2.cell? ⟨w.heap.size, 1, none⟩ = some (.string user) := HX2.out.cell' rfl
 have x2 : w2.cell? ⟨w.heap.size, 2, none⟩ = some (.int .i64 id) := HX2.out.cell' rfl
 have x3 : w2.cell? ⟨w.heap.size, 3, none⟩ = some (.int .i64 st) := HX2.out.cell' rfl
 have x4 : w2.cell? ⟨w.heap.size, 4, none⟩ = some (.int .i64 pr) := HX2.out.cell' rfl
 have x5 : w2.cell? ⟨w.heap.size, 5, none⟩ = some (.int .u64 ttl) := HX2.out.cell' rfl
 have x6 : w2.cell? ⟨w.heap.size, 6, none⟩ = some (.slice A us.length c) := HX2.out.cell' rfl
 have lx := HX2.out.lt
 have hl8 : us.length ≤ 8 := by have h' := hg; simp [goodB] at h'; omega
 obtain ⟨t, c', arr, p, g, Sk, hV⟩ := H2.out
 have HV := Lib.hid hV
 have d4 : w2.cell? ⟨m, 4, none⟩ = some (.bool a.closed) := hV.box.cell' rfl
 have lm := hV.box.lt
 rw [hcl] at d4
 clear hV
 go_wp2_with fail
 refine (users5 user id st pr ttl us A c w2 IN2.out.us (by omega)).mono ?_
 rintro e w3 ⟨A3, c3, rfl, hs3, b3⟩
 have H3 := Lib.hid (H2.out.below b3)
 have HR3 := Lib.hid (HR2.out.below b3 HR2.out.lt)
 have G3 := Lib.hid (G2.out.trans (Gone.of_below b3))
 have HP := Lib.hid (presences H3.out HO.out hb us A3 c3 (hs3.from_ (Nat.zero_le _)) (by omega) (fun u hu => HU.out.size u hu))
 have l3 : w.heap.size + 1 < w3.heap.size := Nat.lt_of_lt_of_le HR2.out.lt b3.size
 generalize us.map a.pres = vs at *
 clear hs3 b3 HX2 HR2 H2 G2 HV x0 x1 x2 x3 x4 x5 x6 lx d4 lm
 go_wp2_with fail
 refine HP.out.mono ?_
 rintro e w4 ⟨A4, c4, rfl, hs4, b4⟩
 have H4 := Lib.hid (H3.out.below b4)
 have HR4 := Lib.hid (HR3.out.below b4 HR3.out.lt)
 have G4 := Lib.hid (G3.out.trans (Gone.of_below b4))
 have HS4 := Lib.hid hs4
 clear hs4 b4 H3 HR3 G3 HP
 have lr := HR4.out.lt
 have r0 := HR4.out.cell' (i := 0) rfl
 have r1 := HR4.out.cell' (i := 1) rfl
 have r2 := HR4.out.cell' (i := 2) rfl
 have r3 := HR4.out.cell' (i := 3) rfl
 have q0 := HR4.out.frozen 0
 have q1 := HR4.out.frozen 1
 have q2 := HR4.out.frozen 2
 have q3 := HR4.out.frozen 3
 go_wp2_with fail
 have HW := wrap HR4.out H4.out G4.out (Nat.le_succ _) NR.out (.int .i64 0) (.slice A4 vs.length c4) (.slice none 0 0) (.bool false)
 generalize (((w4.setCell ⟨w.heap.size + 1, 0, none⟩ (.int .i64 0)).setCell ⟨w.heap.size + 1, 1, none⟩ (.slice A4 vs.length c4)).setCell ⟨w.heap.size + 1, 2, none⟩ (.slice none 0 0)).setCell ⟨w.heap.size + 1, 3, none⟩ (.bool false) = wz at *
 have n0 := HW.box.cell' (i := 0) rfl
 have n1 := HW.box.cell' (i := 1) rfl
 have n2 := HW.box.cell' (i := 2) rfl
 have n3 := HW.box.cell' (i := 3) rfl
 refine bodyPost_ret (v := .agg #[.int .i64 0, .slice A4 vs.length c4, .slice none 0 0, .bool false]) (by simp [results, Tryz.results21, go_sem, n0, n1, n2, n3]) rfl ?_
 exact ⟨A4, c4, none, 0, rfl, (HW.seq l3 HS4.out).from_ (by omega), fun h => absurd rfl h, S, HW.tab, HW.gone⟩
set_option maxRecDepth 100000 in
set_option maxHeartbeats 2000000 in
theorem do6 (user : ByteArray) (id st pr ttl : Int) (A : Option Addr) (c : Nat) (us : List ByteArray) (h : Tab w base S m a) (ho : a.Ok b) (hb : b ≤ 380) (hbw : base ≤ w.heap.size) {who : Nat} (hw : who < 8) (hin : OpW.In ⟨6, user, id, st, pr, ttl, A, c, us⟩ w) (hg : goodB ⟨6, user, id, st, pr, ttl, A, c, us⟩ = true) (hcl : a.closed = false) :
  Calls Tryz.prog 21 #[.pointer (some ⟨m, 0, none⟩), .int .i64 (who : Int), .agg #[.int .i64 6, .string user, .int .i64 id, .int .i64 st, .int .i64 pr, .int .u64 ttl, .slice A us.length c]] w (Polled w base S m (a.ask who ⟨6, user, id, st, pr, ttl, A, c, us⟩).1 (a.ask who ⟨6, user, id, st, pr, ttl, A, c, us⟩).2) := by
 rw [show a.ask who ⟨6, user, id, st, pr, ttl, A, c, us⟩ = ((a.watch who user).1, Rep.of (a.watch who user).2) from by simp [Mo.ask, hcl]]
 have hw2 : (decide ((0 : Int) ≤ (who : Int)) && decide ((who : Int) ≤ 7)) = true := by simp; omega
 have bb := ((Below.refl w.heap.size w).alloc (Nat.le_refl _) (.cells #[.int .i64 6, .string user, .int .i64 id, .int .i64 st, .int .i64 pr, .int .u64 ttl, .slice A us.length c] 37)).alloc (by simp) (.cells #[.int .i64 0, .slice none 0 0, .slice none 0 0, .bool false] 43)
 have HX1 : Hid (Is ((w.alloc (.cells #[.int .i64 6, .string user, .int .i64 id, .int .i64 st, .int .i64 pr, .int .u64 ttl, .slice A us.length c] 37)).alloc (.cells #[.int .i64 0, .slice none 0 0, .slice none 0 0, .bool false] 43)) w.heap.size 37 #[.int .i64 6, .string user, .int .i64 id, .int .i64 st, .int .i64 pr, .int .u64 ttl, .slice A us.length c]) := (Is.new w _ _ rfl).alloc _
 have HR1 : Hid (Is ((w.alloc (.cells #[.int .i64 6, .string user, .int .i64 id, .int .i64 st, .int .i64 pr, .int .u64 ttl, .slice A us.length c] 37)).alloc (.cells #[.int .i64 0, .slice none 0 0, .slice none 0 0, .bool false] 43)) (w.heap.size + 1) 43 #[.int .i64 0, .slice none 0 0, .slice none 0 0, .bool false]) := Is.new _ _ _ (by simp)
 have H1 := Lib.hid (h.below bb)
 have G1 : Hid (Gone w S _ S) := Gone.of_below bb
 have IN1 := Lib.hid (hin.below bb)
 have hok := Lib.hid h.ok
 have HO := Lib.hid ho
 have HU := Lib.hid hin
 have hbw1 := Nat.le_trans hbw bb.size
 have NX : Hid (¬ S w.heap.size) := fun hx => by have := (hok.out _ hx).2; omega
 have NR : Hid (¬ S (w.heap.size + 1)) := fun hx => by have := (hok.out _ hx).2; omega
 clear bb h ho hin
 go_enter Tryz.func21, Tryz.ntmps21
 go_wp2_with fail
 generalize ((w.alloc (.cells #[.int .i64 6, .string user, .int .i64 id, .int .i64 st, .int .i64 pr, .int .u64 ttl, .slice A us.length c] 37)).alloc (.cells #[.int .i64 0, .slice none 0 0, .slice none 0 0, .bool false] 43)) = w1 at *
 refine (bad ⟨6, user, id, st, pr, ttl, A, c, us⟩ IN1.out (r := false) (by rw [hg]; rfl)).mono ?_
 rintro e w2 ⟨rfl, b2⟩
 have HX2 := Lib.hid (HX1.out.below b2 HX1.out.lt)
 have HR2 := Lib.hid (HR1.out.below b2 HR1.out.lt)
 have H2 := Lib.hid (H1.out.below b2)
 have G2 := Lib.hid (G1.out.trans (Gone.of_below b2))
 have IN2 := Lib.hid (IN1.out.below b2)
 have hbw2 := Nat.le_trans hbw1 b2.size
 clear b2 HX1 HR1 H1 G1 IN1
 go_wp2_with fail
 refine (within _ _ _ true hw2 _).mono ?_
 rintro e w2' ⟨rfl, rfl⟩
 have x0 : w2.cell? ⟨w.heap.size, 0, none⟩ = some (.int .i64 6) := HX2.out.cell' rfl
 have x1 : w2.cell? ⟨w.heap.size, 1, none⟩ = some (.string user) := HX2.out.cell' rfl
 have x2 : w2.cell? ⟨w.heap.size, 2, none⟩ = some (.int .i64 id) := HX2.out.cell' rfl
 have x3 : w2.cell? ⟨w.heap.size, 3, none⟩ = some (.int .i64 st) := HX2.out.cell' rfl
 have x4 : w2.cell? ⟨w.heap.size, 4, none⟩ = some (.int .i64 pr) := HX2.out.cell' rfl
 have x5 : w2.cell? ⟨w.heap.size, 5, none⟩ = some (.int .u64 ttl) := HX2.out.cell' rfl
 have x6 : w2.cell? ⟨w.heap.size, 6, none⟩ = some (.slice A us.length c) := HX2.out.cell' rfl
 have lx := HX2.out.lt
 obtain ⟨t, c', arr, p, g, Sk, hV⟩ := H2.out
 have HV := Lib.hid hV
 have d4 : w2.cell? ⟨m, 4, none⟩ = some (.bool a.closed) := hV.box.cell' rfl
 have lm := hV.box.lt
 rw [hcl] at d4
 clear hV
 go_wp2_with fail
 refine (watch H2.out HO.out hb hw user HU.out.user).mono ?_
 generalize a.watch who user = pr at *
 rintro e w3 ⟨rfl, S', hT, hG⟩
 have HR3 := Lib.hid (hG.is HR2.out NR.out)
 have H3 := Lib.hid hT
 have G3 := Lib.hid (G2.out.trans hG)
 have N3 : ¬ S' (w.heap.size + 1) := fun hx => (hG.new _ hx).elim NR.out (fun h' => by have := HR2.out.lt; omega)
 clear hT hG HX2 HR2 H2 G2 HV x0 x1 x2 x3 x4 x5 x6 lx d4 lm
 have lr := HR3.out.lt
 have r0 := HR3.out.cell' (i := 0) rfl
 have r1 := HR3.out.cell' (i := 1) rfl
 have r2 := HR3.out.cell' (i := 2) rfl
 have r3 := HR3.out.cell' (i := 3) rfl
 have q0 := HR3.out.frozen 0
 have q1 := HR3.out.frozen 1
 have q2 := HR3.out.frozen 2
 have q3 := HR3.out.frozen 3
 go_wp2_with fail
 have HW := wrap HR3.out H3.out G3.out (Nat.le_succ _) N3 (.int .i64 pr.2) (.slice none 0 0) (.slice none 0 0) (.bool false)
 generalize (((w3.setCell ⟨w.heap.size + 1, 0, none⟩ (.int .i64 pr.2)).setCell ⟨w.heap.size + 1, 1, none⟩ (.slice none 0 0)).setCell ⟨w.heap.size + 1, 2, none⟩ (.slice none 0 0)).setCell ⟨w.heap.size + 1, 3, none⟩ (.bool false) = wz at *
 have n0 := HW.box.cell' (i := 0) rfl
 have n1 := HW.box.cell' (i := 1) rfl
 have n2 := HW.box.cell' (i := 2) rfl
 have n3 := HW.box.cell' (i := 3) rfl
 refine bodyPost_ret (v := .agg #[.int .i64 pr.2, .slice none 0 0, .slice none 0 0, .bool false]) (by simp [results, Tryz.results21, go_sem, n0, n1, n2, n3]) rfl ?_
 exact ⟨none, 0, none, 0, rfl, fun h => absurd rfl h, fun h => absurd rfl h, S', HW.tab, HW.gone⟩
set_option maxRecDepth 100000 in
set_option maxHeartbeats 2000000 in
theorem do7 (user : ByteArray) (id st pr ttl : Int) (A : Option Addr) (c : Nat) (us : List ByteArray) (h : Tab w base S m a) (ho : a.Ok b) (_hb : b ≤ 380) (hbw : base ≤ w.heap.size) {who : Nat} (hw : who < 8) (hin : OpW.In ⟨7, user, id, st, pr, ttl, A, c, us⟩ w) (hg : goodB ⟨7, user, id, st, pr, ttl, A, c, us⟩ = true) (hcl : a.closed = false) :
  Calls Tryz.prog 21 #[.pointer (some ⟨m, 0, none⟩), .int .i64 (who : Int), .agg #[.int .i64 7, .string user, .int .i64 id, .int .i64 st, .int .i64 pr, .int .u64 ttl, .slice A us.length c]] w (Polled w base S m (a.ask who ⟨7, user, id, st, pr, ttl, A, c, us⟩).1 (a.ask who ⟨7, user, id, st, pr, ttl, A, c, us⟩).2) := by
 rw [show a.ask who ⟨7, user, id, st, pr, ttl, A, c, us⟩ = (a.unwatch who user, Rep.of 0) from by simp [Mo.ask, hcl]]
 have hw2 : (decide ((0 : Int) ≤ (who : Int)) && decide ((who : Int) ≤ 7)) = true := by simp; omega
 have bb := ((Below.refl w.heap.size w).alloc (Nat.le_refl _) (.cells #[.int .i64 7, .string user, .int .i64 id, .int .i64 st, .int .i64 pr, .int .u64 ttl, .slice A us.length c] 37)).alloc (by simp) (.cells #[.int .i64 0, .slice none 0 0, .slice none 0 0, .bool false] 43)
 have HX1 : Hid (Is ((w.alloc (.cells #[.int .i64 7, .string user, .int .i64 id, .int .i64 st, .int .i64 pr, .int .u64 ttl, .slice A us.length c] 37)).alloc (.cells #[.int .i64 0, .slice none 0 0, .slice none 0 0, .bool false] 43)) w.heap.size 37 #[.int .i64 7, .string user, .int .i64 id, .int .i64 st, .int .i64 pr, .int .u64 ttl, .slice A us.length c]) := (Is.new w _ _ rfl).alloc _
 have HR1 : Hid (Is ((w.alloc (.cells #[.int .i64 7, .string user, .int .i64 id, .int .i64 st, .int .i64 pr, .int .u64 ttl, .slice A us.length c] 37)).alloc (.cells #[.int .i64 0, .slice none 0 0, .slice none 0 0, .bool false] 43)) (w.heap.size + 1) 43 #[.int .i64 0, .slice none 0 0, .slice none 0 0, .bool false]) := Is.new _ _ _ (by simp)
 have H1 := Lib.hid (h.below bb)
 have G1 : Hid (Gone w S _ S) := Gone.of_below bb
 have IN1 := Lib.hid (hin.below bb)
 have hok := Lib.hid h.ok
 have HO := Lib.hid ho
 have HU := Lib.hid hin
 have hbw1 := Nat.le_trans hbw bb.size
 have NX : Hid (¬ S w.heap.size) := fun hx => by have := (hok.out _ hx).2; omega
 have NR : Hid (¬ S (w.heap.size + 1)) := fun hx => by have := (hok.out _ hx).2; omega
 clear bb h ho hin
 go_enter Tryz.func21, Tryz.ntmps21
 go_wp2_with fail
 generalize ((w.alloc (.cells #[.int .i64 7, .string user, .int .i64 id, .int .i64 st, .int .i64 pr, .int .u64 ttl, .slice A us.length c] 37)).alloc (.cells #[.int .i64 0, .slice none 0 0, .slice none 0 0, .bool false] 43)) = w1 at *
 refine (bad ⟨7, user, id, st, pr, ttl, A, c, us⟩ IN1.out (r := false) (by rw [hg]; rfl)).mono ?_
 rintro e w2 ⟨rfl, b2⟩
 have HX2 := Lib.hid (HX1.out.below b2 HX1.out.lt)
 have HR2 := Lib.hid (HR1.out.below b2 HR1.out.lt)
 have H2 := Lib.hid (H1.out.below b2)
 have G2 := Lib.hid (G1.out.trans (Gone.of_below b2))
 have IN2 := Lib.hid (IN1.out.below b2)
 have hbw2 := Nat.le_trans hbw1 b2.size
 clear b2 HX1 HR1 H1 G1 IN1
 go_wp2_with fail
 refine (within _ _ _ true hw2 _).mono ?_
 rintro e w2' ⟨rfl, rfl⟩
 have x0 : w2.cell? ⟨w.heap.size, 0, none⟩ = some (.int .i64 7) := HX2.out.cell' rfl
 have x1 : w2.cell? ⟨w.heap.size, 1, none⟩ = some (.string user) := HX2.out.cell' rfl
 have x2 : w2.cell? ⟨w.heap.size, 2, none⟩ = some (.int .i64 id) := HX2.out.cell' rfl
 have x3 : w2.cell? ⟨w.heap.size, 3, none⟩ = some (.int .i64 st) := HX2.out.cell' rfl
 have x4 : w2.cell? ⟨w.heap.size, 4, none⟩ = some (.int .i64 pr) := HX2.out.cell' rfl
 have x5 : w2.cell? ⟨w.heap.size, 5, none⟩ = some (.int .u64 ttl) := HX2.out.cell' rfl
 have x6 : w2.cell? ⟨w.heap.size, 6, none⟩ = some (.slice A us.length c) := HX2.out.cell' rfl
 have lx := HX2.out.lt
 obtain ⟨t, c', arr, p, g, Sk, hV⟩ := H2.out
 have HV := Lib.hid hV
 have d4 : w2.cell? ⟨m, 4, none⟩ = some (.bool a.closed) := hV.box.cell' rfl
 have lm := hV.box.lt
 rw [hcl] at d4
 clear hV
 obtain ⟨k, hk⟩ : ∃ k, str user a.n = k := ⟨_, rfl⟩
 have hlt : k < a.n := hk ▸ str_lt user HO.out.n1
 have HK := Lib.hid hk
 have HE : Hid (a.unwatch who user = { a with fd := upd a.fd k { a.fd k with wat := upd (a.fd k).wat who (outK user ((a.fd k).wat who)) } }) := by show _ = _; unfold Mo.unwatch Mo.feed1; rw [hk]
 have hwl := HO.out.wat k hlt who hw
 clear hk
 go_wp2_with fail
 have bd : Below w2.heap.size w2 w2.drew := Law.below_drewN (Below.refl _ w2) 1
 have HVd := Lib.hid (HV.out.below bd)
 have HRd := Lib.hid (HR2.out.below bd HR2.out.lt)
 have HXd := Lib.hid (HX2.out.below bd HX2.out.lt)
 have Gd := Lib.hid (G2.out.trans (Gone.of_below bd))
 have x9 : w2.drew.cell? ⟨w.heap.size, 1, none⟩ = some (.string user) := x1
 have l9 : w.heap.size < w2.drew.heap.size := lx
 clear bd HX2 HR2 H2 G2 HV x0 x1 x2 x3 x4 x5 x6 lx d4 lm
 refine wp_region_held_drew (S := fun w' => w'.cell? ⟨w.heap.size, 1, none⟩ = some (.string user) ∧ w.heap.size < w'.heap.size) (by kernel_rfl) ⟨x9, l9⟩ (fun hS0 => ?_)
 refine Go.Law.tk 0 ⟨some 56, .move (.tmp 0), _, _, _, _⟩ (v := .pointer (some ⟨m, 0, none⟩)) hS0 ?_ ?_
 ·intro w' hSw
  go_simp
 try simp only [Go.Law.pz]
 refine Go.Law.tk 1 ⟨some 57, .fieldAddr 37 (.tmp 5) 1, _, _, _, _⟩ (v := .pointer (some ⟨w.heap.size, 1, none⟩)) hS0 ?_ ?_
 ·intro w' hSw
  go_simp
 try simp only [Go.Law.pz]
 refine Go.Law.tk 2 ⟨some 58, .load 9 (.tmp 57), _, _, _, _⟩ (v := .string user) hS0 ?_ ?_
 ·intro w' hSw
  obtain ⟨s1, s2⟩ := hSw
  go_simp
 try simp only [Go.Law.pz]
 refine Go.Law.tk 7 ⟨some 63, .move (.tmp 1), _, _, _, _⟩ (v := .int .i64 (who : Int)) hS0 ?_ ?_
 ·intro w' hSw
  go_simp
 try simp only [Go.Law.pz]
 refine Go.Law.tk 8 ⟨some 64, .fieldAddr 37 (.tmp 5) 1, _, _, _, _⟩ (v := .pointer (some ⟨w.heap.size, 1, none⟩)) hS0 ?_ ?_
 ·intro w' hSw
  go_simp
 try simp only [Go.Law.pz]
 refine Go.Law.tk 9 ⟨some 65, .load 9 (.tmp 64), _, _, _, _⟩ (v := .string user) hS0 ?_ ?_
 ·intro w' hSw
  obtain ⟨s1, s2⟩ := hSw
  go_simp
 try simp only [Go.Law.pz]
 generalize w2.drew = w9 at *
 refine wpAnyH_ready (rs := [3]) (by kernel_rfl) (by simp) ?_
 refine AllReadyH.cons (o := ⟨some 59, .call { callee := .value (.func 42), args := #[.tmp 56, .tmp 58], argTypes := _ }, _, _, _, _⟩) rfl (fun K hK => ?_) AllReadyH.nil
 go_simp
 refine Calls.mono (of_ HVd.out user HU.out.user HO.out.n1 HO.out.n8 HK.out) ?_
 rintro e w3 ⟨rfl, b3⟩
 have HV3 := Lib.hid (HVd.out.below b3)
 have HR3 := Lib.hid (HRd.out.below b3 HRd.out.lt)
 have HX3 := Lib.hid (HXd.out.below b3 HXd.out.lt)
 have G3 := Lib.hid (Gd.out.trans (Gone.of_below b3))
 go_wp2_with fail
 refine hK.out _ _ ⟨(b3.cell (p := ⟨w.heap.size, 1, none⟩) l9).trans x9, Nat.lt_of_lt_of_le l9 b3.size⟩ (fun hS1 => ?_)
 clear hK K
 try simp only [Go.Law.pz]
 have e1 : w3.cell? ⟨t, k * 2 + 1, none⟩ = some (.pointer (some ⟨g k, 0, none⟩)) := (HV3.out.row.cell _).trans (HV3.out.fdc k hlt)
 have le := HV3.out.row.lt
 clear b3
 refine Go.Law.tk 4 ⟨some 60, .nilCheck (.tmp 59), _, _, _, _⟩ (v := .pointer (some ⟨t, k * 2, none⟩)) hS1 ?_ ?_
 ·intro w' hSw
  go_simp
 try simp only [Go.Law.pz]
 refine Go.Law.tk 5 ⟨some 61, .fieldAddr 74 (.tmp 60) 1, _, _, _, _⟩ (v := .pointer (some ⟨t, k * 2 + 1, none⟩)) hS1 ?_ ?_
 ·intro w' hSw
  go_simp
 try simp only [Go.Law.pz]
 refine wpAnyH_ready (rs := [6]) (by kernel_rfl) (by simp) ?_
 refine AllReadyH.cons (o := ⟨some 62, .load 68 (.tmp 61), _, _, _, _⟩) rfl (fun K hK => ?_) AllReadyH.nil
 go_simp
 refine hK.out _ _ hS1 (fun hS2 => ?_)
 clear hK K
 try simp only [Go.Law.pz]
 refine wpAnyH_ready (rs := [10]) (by kernel_rfl) (by simp) ?_
 refine AllReadyH.cons (o := ⟨some 66, .call { callee := .value (.func 51), args := #[.tmp 62, .tmp 63, .tmp 65], argTypes := _ }, _, _, _, _⟩) rfl (fun K hK => ?_) AllReadyH.nil
 go_simp
 refine Calls.mono (unwatchE (k := who) (HV3.out.feed k hlt) rfl hw user (by omega) rfl) ?_
 rintro e w4 ⟨rfl, hF, hW⟩
 have HT4 := Lib.hid (HV3.out.keep hlt hF hW)
 have HR4 := Lib.hid (HT4.out.2.is HR3.out NR.out)
 have HX4 := Lib.hid (HT4.out.2.is HX3.out NX.out)
 have G4 := Lib.hid (G3.out.trans HT4.out.2)
 go_wp2_with fail
 refine hK.out _ _ ⟨HX4.out.cell' rfl, HX4.out.lt⟩ (fun hS3 => ?_)
 clear hK K
 try simp only [Go.Law.pz]
 clear hF hW
 refine wpAnyH_done (by kernel_rfl) ?_ _
 have lr := HR4.out.lt
 have r0 := HR4.out.cell' (i := 0) rfl
 have r1 := HR4.out.cell' (i := 1) rfl
 have r2 := HR4.out.cell' (i := 2) rfl
 have r3 := HR4.out.cell' (i := 3) rfl
 have q0 := HR4.out.frozen 0
 have q1 := HR4.out.frozen 1
 have q2 := HR4.out.frozen 2
 have q3 := HR4.out.frozen 3
 go_wp2_with fail
 have HW := wrap HR4.out HT4.out.1.tab G4.out (Nat.le_succ _) NR.out (.int .i64 0) (.slice none 0 0) (.slice none 0 0) (.bool false)
 generalize (((w4.setCell ⟨w.heap.size + 1, 0, none⟩ (.int .i64 0)).setCell ⟨w.heap.size + 1, 1, none⟩ (.slice none 0 0)).setCell ⟨w.heap.size + 1, 2, none⟩ (.slice none 0 0)).setCell ⟨w.heap.size + 1, 3, none⟩ (.bool false) = wz at *
 have n0 := HW.box.cell' (i := 0) rfl
 have n1 := HW.box.cell' (i := 1) rfl
 have n2 := HW.box.cell' (i := 2) rfl
 have n3 := HW.box.cell' (i := 3) rfl
 refine bodyPost_ret (v := .agg #[.int .i64 0, .slice none 0 0, .slice none 0 0, .bool false]) (by simp [results, Tryz.results21, go_sem, n0, n1, n2, n3]) rfl ?_
 exact ⟨none, 0, none, 0, rfl, fun h => absurd rfl h, fun h => absurd rfl h, S, by show Tab wz base S m (a.unwatch who user); rw [HE.out]; exact HW.tab, HW.gone⟩
set_option maxRecDepth 100000 in
set_option maxHeartbeats 2000000 in
theorem do9 (user : ByteArray) (id st pr ttl : Int) (A : Option Addr) (c : Nat) (us : List ByteArray) (h : Tab w base S m a) (ho : a.Ok b) (_hb : b ≤ 380) (hbw : base ≤ w.heap.size) {who : Nat} (hw : who < 8) (hin : OpW.In ⟨9, user, id, st, pr, ttl, A, c, us⟩ w) (hg : goodB ⟨9, user, id, st, pr, ttl, A, c, us⟩ = true) (hcl : a.closed = false) :
  Calls Tryz.prog 21 #[.pointer (some ⟨m, 0, none⟩), .int .i64 (who : Int), .agg #[.int .i64 9, .string user, .int .i64 id, .int .i64 st, .int .i64 pr, .int .u64 ttl, .slice A us.length c]] w (Polled w base S m (a.ask who ⟨9, user, id, st, pr, ttl, A, c, us⟩).1 (a.ask who ⟨9, user, id, st, pr, ttl, A, c, us⟩).2) := by
 rw [show a.ask who ⟨9, user, id, st, pr, ttl, A, c, us⟩ = ({ a with closed := true }, Rep.of 0) from by simp [Mo.ask, hcl]]
 have hw2 : (decide ((0 : Int) ≤ (who : Int)) && decide ((who : Int) ≤ 7)) = true := by simp; omega
 have bb := ((Below.refl w.heap.size w).alloc (Nat.le_refl _) (.cells #[.int .i64 9, .string user, .int .i64 id, .int .i64 st, .int .i64 pr, .int .u64 ttl, .slice A us.length c] 37)).alloc (by simp) (.cells #[.int .i64 0, .slice none 0 0, .slice none 0 0, .bool false] 43)
 have HX1 : Hid (Is ((w.alloc (.cells #[.int .i64 9, .string user, .int .i64 id, .int .i64 st, .int .i64 pr, .int .u64 ttl, .slice A us.length c] 37)).alloc (.cells #[.int .i64 0, .slice none 0 0, .slice none 0 0, .bool false] 43)) w.heap.size 37 #[.int .i64 9, .string user, .int .i64 id, .int .i64 st, .int .i64 pr, .int .u64 ttl, .slice A us.length c]) := (Is.new w _ _ rfl).alloc _
 have HR1 : Hid (Is ((w.alloc (.cells #[.int .i64 9, .string user, .int .i64 id, .int .i64 st, .int .i64 pr, .int .u64 ttl, .slice A us.length c] 37)).alloc (.cells #[.int .i64 0, .slice none 0 0, .slice none 0 0, .bool false] 43)) (w.heap.size + 1) 43 #[.int .i64 0, .slice none 0 0, .slice none 0 0, .bool false]) := Is.new _ _ _ (by simp)
 have H1 := Lib.hid (h.below bb)
 have G1 : Hid (Gone w S _ S) := Gone.of_below bb
 have IN1 := Lib.hid (hin.below bb)
 have hok := Lib.hid h.ok
 have HO := Lib.hid ho
 have HU := Lib.hid hin
 have hbw1 := Nat.le_trans hbw bb.size
 have NX : Hid (¬ S w.heap.size) := fun hx => by have := (hok.out _ hx).2; omega
 have NR : Hid (¬ S (w.heap.size + 1)) := fun hx => by have := (hok.out _ hx).2; omega
 clear bb h ho hin
 go_enter Tryz.func21, Tryz.ntmps21
 go_wp2_with fail
 generalize ((w.alloc (.cells #[.int .i64 9, .string user, .int .i64 id, .int .i64 st, .int .i64 pr, .int .u64 ttl, .slice A us.length c] 37)).alloc (.cells #[.int .i64 0, .slice none 0 0, .slice none 0 0, .bool false] 43)) = w1 at *
 refine (bad ⟨9, user, id, st, pr, ttl, A, c, us⟩ IN1.out (r := false) (by rw [hg]; rfl)).mono ?_
 rintro e w2 ⟨rfl, b2⟩
 have HX2 := Lib.hid (HX1.out.below b2 HX1.out.lt)
 have HR2 := Lib.hid (HR1.out.below b2 HR1.out.lt)
 have H2 := Lib.hid (H1.out.below b2)
 have G2 := Lib.hid (G1.out.trans (Gone.of_below b2))
 have IN2 := Lib.hid (IN1.out.below b2)
 have hbw2 := Nat.le_trans hbw1 b2.size
 clear b2 HX1 HR1 H1 G1 IN1
 go_wp2_with fail
 refine (within _ _ _ true hw2 _).mono ?_
 rintro e w2' ⟨rfl, rfl⟩
 have x0 : w2.cell? ⟨w.heap.size, 0, none⟩ = some (.int .i64 9) := HX2.out.cell' rfl
 have x1 : w2.cell? ⟨w.heap.size, 1, none⟩ = some (.string user) := HX2.out.cell' rfl
 have x2 : w2.cell? ⟨w.heap.size, 2, none⟩ = some (.int .i64 id) := HX2.out.cell' rfl
 have x3 : w2.cell? ⟨w.heap.size, 3, none⟩ = some (.int .i64 st) := HX2.out.cell' rfl
 have x4 : w2.cell? ⟨w.heap.size, 4, none⟩ = some (.int .i64 pr) := HX2.out.cell' rfl
 have x5 : w2.cell? ⟨w.heap.size, 5, none⟩ = some (.int .u64 ttl) := HX2.out.cell' rfl
 have x6 : w2.cell? ⟨w.heap.size, 6, none⟩ = some (.slice A us.length c) := HX2.out.cell' rfl
 have lx := HX2.out.lt
 obtain ⟨t, c', arr, p, g, Sk, hV⟩ := H2.out
 have HV := Lib.hid hV
 have d4 : w2.cell? ⟨m, 4, none⟩ = some (.bool a.closed) := hV.box.cell' rfl
 have lm := hV.box.lt
 rw [hcl] at d4
 clear hV
 have d2 : w2.cell? ⟨m, 2, none⟩ = some (.int .u64 a.now) := HV.out.box.cell' rfl
 have d3 : w2.cell? ⟨m, 3, none⟩ = some (.int .u64 a.seq) := HV.out.box.cell' rfl
 go_wp2_with fail
 refine (Tick.shut _ _ _ _).mono ?_
 rintro e w3 ⟨rfl, hw3⟩
 have b3 : Below w2.heap.size w2 w3 := by subst hw3; exact ((Below.refl _ w2).alloc (Nat.le_refl _) _).alloc (by simp) _
 clear hw3
 have HV3 := Lib.hid (HV.out.below b3)
 have HR3 := Lib.hid (HR2.out.below b3 HR2.out.lt)
 have G3 := Lib.hid (G2.out.trans (Gone.of_below b3))
 have e2 : w3.cell? ⟨m, 2, none⟩ = some (.int .u64 a.now) := HV3.out.box.cell' rfl
 have e3 : w3.cell? ⟨m, 3, none⟩ = some (.int .u64 a.seq) := HV3.out.box.cell' rfl
 have e4 : w3.cell? ⟨m, 4, none⟩ = some (.bool a.closed) := HV3.out.box.cell' rfl
 have f2 := HV3.out.box.frozen 2
 have f3 := HV3.out.box.frozen 3
 have f4 := HV3.out.box.frozen 4
 have lm3 := HV3.out.box.lt
 have t1 := HV3.out.time 2 (.int .u64 a.now) (a' := a) rfl rfl rfl rfl rfl
 have t2 := t1.1.time 3 (.int .u64 a.seq) (a' := a) rfl rfl rfl rfl rfl
 have t3 := t2.1.time 4 (.bool true) (a' := { a with closed := true }) rfl rfl rfl rfl rfl
 have HV4 := Lib.hid t3.1
 have HR4 := Lib.hid (t3.2.is (t2.2.is (t1.2.is HR3.out NR.out) NR.out) NR.out)
 have G4 := Lib.hid (G3.out.trans (t1.2.trans (t2.2.trans t3.2)))
 clear t1 t2 t3 b3 HX2 HR2 H2 G2 HV HV3 HR3 G3 x0 x1 x2 x3 x4 x5 x6 lx d4 lm d2 d3
 have lr := HR4.out.lt
 have r0 := HR4.out.cell' (i := 0) rfl
 have r1 := HR4.out.cell' (i := 1) rfl
 have r2 := HR4.out.cell' (i := 2) rfl
 have r3 := HR4.out.cell' (i := 3) rfl
 have q0 := HR4.out.frozen 0
 have q1 := HR4.out.frozen 1
 have q2 := HR4.out.frozen 2
 have q3 := HR4.out.frozen 3
 go_wp2_with fail
 have HW := wrap HR4.out HV4.out.tab G4.out (Nat.le_succ _) NR.out (.int .i64 0) (.slice none 0 0) (.slice none 0 0) (.bool false)
 generalize ((((((w3.setCell ⟨m, 2, none⟩ (.int .u64 a.now)).setCell ⟨m, 3, none⟩ (.int .u64 a.seq)).setCell ⟨m, 4, none⟩ (.bool true)).setCell ⟨w.heap.size + 1, 0, none⟩ (.int .i64 0)).setCell ⟨w.heap.size + 1, 1, none⟩ (.slice none 0 0)).setCell ⟨w.heap.size + 1, 2, none⟩ (.slice none 0 0)).setCell ⟨w.heap.size + 1, 3, none⟩ (.bool false) = wz at *
 have n0 := HW.box.cell' (i := 0) rfl
 have n1 := HW.box.cell' (i := 1) rfl
 have n2 := HW.box.cell' (i := 2) rfl
 have n3 := HW.box.cell' (i := 3) rfl
 refine bodyPost_ret (v := .agg #[.int .i64 0, .slice none 0 0, .slice none 0 0, .bool false]) (by simp [results, Tryz.results21, go_sem, n0, n1, n2, n3]) rfl ?_
 exact ⟨none, 0, none, 0, rfl, fun h => absurd rfl h, fun h => absurd rfl h, S, HW.tab, HW.gone⟩
set_option maxRecDepth 100000 in
set_option maxHeartbeats 2000000 in
theorem doBad (kind : Int) (user : ByteArray) (id st pr ttl : Int) (A : Option Addr) (c : Nat) (us : List ByteArray) (h : Tab w base S m a) (who : Int) (hin : OpW.In ⟨kind, user, id, st, pr, ttl, A, c, us⟩ w) {gb wb : Bool} (hg : goodB ⟨kind, user, id, st, pr, ttl, A, c, us⟩ = gb) (hwb : (decide ((0 : Int) ≤ who) && decide (who ≤ 7)) = wb) (hor : gb = false ∨ wb = false) :
  Calls Tryz.prog 21 #[.pointer (some ⟨m, 0, none⟩), .int .i64 who, .agg #[.int .i64 kind, .string user, .int .i64 id, .int .i64 st, .int .i64 pr, .int .u64 ttl, .slice A us.length c]] w (Polled w base S m a (Rep.of 1)) := by
 have bb := ((Below.refl w.heap.size w).alloc (Nat.le_refl _) (.cells #[.int .i64 kind, .string user, .int .i64 id, .int .i64 st, .int .i64 pr, .int .u64 ttl, .slice A us.length c] 37)).alloc (by simp) (.cells #[.int .i64 0, .slice none 0 0, .slice none 0 0, .bool false] 43)
 have HR1 : Hid (Is ((w.alloc (.cells #[.int .i64 kind, .string user, .int .i64 id, .int .i64 st, .int .i64 pr, .int .u64 ttl, .slice A us.length c] 37)).alloc (.cells #[.int .i64 0, .slice none 0 0, .slice none 0 0, .bool false] 43)) (w.heap.size + 1) 43 #[.int .i64 0, .slice none 0 0, .slice none 0 0, .bool false]) := Is.new _ _ _ (by simp)
 have H1 := Lib.hid (h.below bb)
 have G1 : Hid (Gone w S _ S) := Gone.of_below bb
 have IN1 := Lib.hid (hin.below bb)
 have hok := Lib.hid h.ok
 have NR : Hid (¬ S (w.heap.size + 1)) := fun hx => by have := (hok.out _ hx).2; omega
 clear bb h hin
 go_enter Tryz.func21, Tryz.ntmps21
 go_wp2_with fail
 generalize ((w.alloc (.cells #[.int .i64 kind, .string user, .int .i64 id, .int .i64 st, .int .i64 pr, .int .u64 ttl, .slice A us.length c] 37)).alloc (.cells #[.int .i64 0, .slice none 0 0, .slice none 0 0, .bool false] 43)) = w1 at *
 refine (bad ⟨kind, user, id, st, pr, ttl, A, c, us⟩ IN1.out (r := !gb) (by rw [hg])).mono ?_
 rintro e w2 ⟨rfl, b2⟩
 have HR2 := Lib.hid (HR1.out.below b2 HR1.out.lt)
 have H2 := Lib.hid (H1.out.below b2)
 have G2 := Lib.hid (G1.out.trans (Gone.of_below b2))
 clear b2 HR1 H1 G1 IN1
 cases gb with
 | false =>
   have lr := HR2.out.lt
   have r0 := HR2.out.cell' (i := 0) rfl
   have r1 := HR2.out.cell' (i := 1) rfl
   have r2 := HR2.out.cell' (i := 2) rfl
   have r3 := HR2.out.cell' (i := 3) rfl
   have q0 := HR2.out.frozen 0
   have q1 := HR2.out.frozen 1
   have q2 := HR2.out.frozen 2
   have q3 := HR2.out.frozen 3
   go_wp2_with fail
   have HW := wrap HR2.out H2.out G2.out (Nat.le_succ _) NR.out (.int .i64 1) (.slice none 0 0) (.slice none 0 0) (.bool false)
   generalize (((w2.setCell ⟨w.heap.size + 1, 0, none⟩ (.int .i64 1)).setCell ⟨w.heap.size + 1, 1, none⟩ (.slice none 0 0)).setCell ⟨w.heap.size + 1, 2, none⟩ (.slice none 0 0)).setCell ⟨w.heap.size + 1, 3, none⟩ (.bool false) = wz at *
   have n0 := HW.box.cell' (i := 0) rfl
   have n1 := HW.box.cell' (i := 1) rfl
   have n2 := HW.box.cell' (i := 2) rfl
   have n3 := HW.box.cell' (i := 3) rfl
   refine bodyPost_ret (v := .agg #[.int .i64 1, .slice none 0 0, .slice none 0 0, .bool false]) (by simp [results, Tryz.results21, go_sem, n0, n1, n2, n3]) rfl ?_
   exact ⟨none, 0, none, 0, rfl, fun h => absurd rfl h, fun h => absurd rfl h, S, HW.tab, HW.gone⟩
 | true =>
   obtain rfl : wb = false := hor.elim (fun h => Bool.noConfusion h) (fun h => h)
   go_wp2_with fail
   refine (within _ _ _ false hwb _).mono ?_
   rintro e w2' ⟨rfl, rfl⟩
   have lr := HR2.out.lt
   have r0 := HR2.out.cell' (i := 0) rfl
   have r1 := HR2.out.cell' (i := 1) rfl
   have r2 := HR2.out.cell' (i := 2) rfl
   have r3 := HR2.out.cell' (i := 3) rfl
   have q0 := HR2.out.frozen 0
   have q1 := HR2.out.frozen 1
   have q2 := HR2.out.frozen 2
   have q3 := HR2.out.frozen 3
   go_wp2_with fail
   have HW := wrap HR2.out H2.out G2.out (Nat.le_succ _) NR.out (.int .i64 1) (.slice none 0 0) (.slice none 0 0) (.bool false)
   generalize (((w2.setCell ⟨w.heap.size + 1, 0, none⟩ (.int .i64 1)).setCell ⟨w.heap.size + 1, 1, none⟩ (.slice none 0 0)).setCell ⟨w.heap.size + 1, 2, none⟩ (.slice none 0 0)).setCell ⟨w.heap.size + 1, 3, none⟩ (.bool false) = wz at *
   have n0 := HW.box.cell' (i := 0) rfl
   have n1 := HW.box.cell' (i := 1) rfl
   have n2 := HW.box.cell' (i := 2) rfl
   have n3 := HW.box.cell' (i := 3) rfl
   refine bodyPost_ret (v := .agg #[.int .i64 1, .slice none 0 0, .slice none 0 0, .bool false]) (by simp [results, Tryz.results21, go_sem, n0, n1, n2, n3]) rfl ?_
   exact ⟨none, 0, none, 0, rfl, fun h => absurd rfl h, fun h => absurd rfl h, S, HW.tab, HW.gone⟩
theorem do_ (q : OpW) (h : Tab w base S m a) (ho : a.Ok b) (hb : b ≤ 380) (hbw : base ≤ w.heap.size) (who : Int) (hin : q.In w) :
  Calls Tryz.prog 21 #[.pointer (some ⟨m, 0, none⟩), .int .i64 who, q.v.val] w (Polled w base S m (a.do_ who q).1 (a.do_ who q).2) := by
 obtain ⟨kind, user, id, st, pr, ttl, A, c, us⟩ := q
 unfold Mo.do_
 by_cases hc : goodB ⟨kind, user, id, st, pr, ttl, A, c, us⟩ = true ∧ (0 ≤ who ∧ who < 8)
 ·rw [if_pos hc]
  obtain ⟨hg, hw0, hw8⟩ := hc
  obtain ⟨k, rfl⟩ := Int.eq_ofNat_of_zero_le hw0
  have hk : k < 8 := by omega
  show Calls _ _ #[_, .int .i64 (k : Int), .agg #[.int .i64 kind, .string user, .int .i64 id, .int .i64 st, .int .i64 pr, .int .u64 ttl, .slice A us.length c]] _ (Polled w base S m (a.ask k _).1 (a.ask k _).2)
  by_cases hr : 1 ≤ kind ∧ kind ≤ 9
  ·have h9 : kind = 1 ∨ kind = 2 ∨ kind = 3 ∨ kind = 4 ∨ kind = 5 ∨ kind = 6 ∨ kind = 7 ∨ kind = 8 ∨ kind = 9 := by omega
   cases hcl : a.closed <;> rcases h9 with rfl | rfl | rfl | rfl | rfl | rfl | rfl | rfl | rfl
   ·exact do1 user id st pr ttl A c us h ho hb hbw hk hin hg
   ·exact do2 user id st pr ttl A c us h ho hb hbw hk hin hg
   ·exact do3 user id st pr ttl A c us h ho hb hbw hk hin hg
   ·exact do4 user id st pr ttl A c us h ho hb hbw hk hin hg hcl
   ·exact do5 user id st pr ttl A c us h ho hb hbw hk hin hg hcl
   ·exact do6 user id st pr ttl A c us h ho hb hbw hk hin hg hcl
   ·exact do7 user id st pr ttl A c us h ho hb hbw hk hin hg hcl
   ·exact do8 user id st pr ttl A c us h ho hb hbw hk hin hg
   ·exact do9 user id st pr ttl A c us h ho hb hbw hk hin hg hcl
   ·exact do1 user id st pr ttl A c us h ho hb hbw hk hin hg
   ·exact do2 user id st pr ttl A c us h ho hb hbw hk hin hg
   ·exact do3 user id st pr ttl A c us h ho hb hbw hk hin hg
   ·exact shut4 user id st pr ttl A c us h ho hb hbw hk hin hg hcl
   ·exact shut5 user id st pr ttl A c us h ho hb hbw hk hin hg hcl
   ·exact shut6 user id st pr ttl A c us h ho hb hbw hk hin hg hcl
   ·exact shut7 user id st pr ttl A c us h ho hb hbw hk hin hg hcl
   ·exact do8 user id st pr ttl A c us h ho hb hbw hk hin hg
   ·exact shut9 user id st pr ttl A c us h ho hb hbw hk hin hg hcl
  ·exfalso
   unfold goodB at hg
   simp only at hg
   rw [if_neg (by omega), if_neg (by omega), if_neg (by omega), if_neg (by omega), decide_eq_false (by omega)] at hg
   cases hg
 ·rw [if_neg hc]
  refine doBad kind user id st pr ttl A c us h who hin rfl rfl ?_
  cases hg : goodB ⟨kind, user, id, st, pr, ttl, A, c, us⟩ with
  | false => exact .inl rfl
  | true =>
    refine .inr ?_
    have : ¬ (0 ≤ who ∧ who < 8) := fun h => hc ⟨hg, h⟩
    simp
    omega
end
end Mod
end Go.Proofs.YtohdlnefgieenaaGreat
namespace Go.Proofs.YtohdlnefgieenaaGreat
open Go.RowKit Go.Shelf
attribute [local go_sem] Oper.semAt_some
namespace Mod
open Go.Law Feed Bk
def small : Cf := ⟨3, 2, 16, 4, 1, 100, 0⟩
theorem small_right : small.right = true := by decide
set_option maxRecDepth 100000 in
set_option maxHeartbeats 1000000 in
theorem small_ (w : World) : Calls Tryz.prog 20 #[] w fun e w' => e = .returned small.val ∧ Below w.heap.size w w' := by
 go_enter Tryz.func20, Tryz.ntmps20
 go_wp2_with fail
 exact bodyPost_ret (v := small.val) (by simp [results, Tryz.results20, go_sem, small]) rfl ⟨rfl, (Below.refl _ w).alloc (Nat.le_refl _) _⟩
def ann : ByteArray := ⟨#[97, 110, 110]⟩
def exW : OpW := ⟨6, ann, 0, 0, 0, 0, none, 0, []⟩
def exS : OpW := ⟨1, ann, 0, 2, 0, 9, none, 0, []⟩
def exP : OpW := ⟨8, ⟨#[]⟩, 0, 0, 0, 0, none, 0, []⟩
def ex2 : Mo := (((Mo.new small).do_ 1 exW).1.do_ 0 exS).1
theorem ex_evs : (ex2.do_ 1 exP).2.evs = [⟨ann, 0, 0, 0, 2, 0, 1, 1⟩] := by decide +kernel
theorem lit_in (kind : Int) (u : ByteArray) (id st pr ttl : Int) (w : World) (hu : u.size ≤ maxLen) (ht : 0 ≤ ttl ∧ ttl ≤ 18446744073709551615) : OpW.In ⟨kind, u, id, st, pr, ttl, none, 0, []⟩ w := ⟨fun h => absurd rfl h, Nat.zero_le _, fun _ h => (by cases h), hu, ht⟩
theorem new_small_ok : (Mo.new small).Ok 0 := new_ok small small_right Door.U0
structure Live (w0 w : World) (base : Nat) (S : Nat → Prop) (m : Nat) (a : Mo) : Prop where
 tab : Tab w base S m a
 bel : Below w0.heap.size w0 w
 new : ∀ x, S x → w0.heap.size ≤ x
theorem Live.gone {w0 w w' : World} {base m : Nat} {S S' : Nat → Prop} {a a' : Mo} (h : Live w0 w base S m a) (hT : Tab w' base S' m a') (hG : Gone w S w' S') : Live w0 w' base S' m a' :=
 ⟨hT, hG.below h.new h.bel h.bel.size, fun x hx => (hG.new x hx).elim (h.new x) (fun h' => Nat.le_trans h.bel.size h')⟩
theorem Live.below {w0 w w' : World} {base m : Nat} {S : Nat → Prop} {a : Mo} (h : Live w0 w base S m a) (hb : Below w.heap.size w w') : Live w0 w' base S m a :=
 ⟨h.tab.below hb, h.bel.trans (hb.mono h.bel.size), h.new⟩
set_option maxRecDepth 100000 in
set_option maxHeartbeats 4000000 in
theorem awake (w : World) : Calls Tryz.prog 4 #[] w fun e w' => e = .returned (.bool true) ∧ Below w.heap.size w w' := by
 go_enter Tryz.func4, Tryz.ntmps4
 go_wp2_with fail
 refine (small_ w).mono ?_
 rintro e w1 ⟨rfl, b1⟩
 have HB1 := Lib.hid b1
 clear b1
 go_wp2_with fail
 refine (new_yes small w1 (base := w.heap.size) HB1.out.size small_right).mono ?_
 rintro e w2 ⟨m, S, rfl, hT, hS, hB⟩
 have H2 : Hid (Live w w2 w.heap.size S m (Mo.new small)) := ⟨hT, HB1.out.trans (hB.mono HB1.out.size), fun x hx => Nat.le_trans HB1.out.size (hS x hx)⟩
 clear hT hS hB HB1
 go_wp2_with fail
 refine (do_ exW H2.out.tab new_small_ok (by omega) H2.out.bel.size 1 (lit_in _ _ _ _ _ _ _ (by decide) (by decide))).mono ?_
 rintro e w3 ⟨A1, c1, A2, c2, rfl, _, _, S3, hT, hG⟩
 have H3 := Lib.hid (H2.out.gone hT hG)
 have O3 := Lib.hid (do_ok new_small_ok 1 exW)
 clear hT hG H2
 go_wp2_with fail
 refine (do_ exS H3.out.tab O3.out (by omega) H3.out.bel.size 0 (lit_in _ _ _ _ _ _ _ (by decide) (by decide))).mono ?_
 rintro e w4 ⟨A1', c1', A2', c2', rfl, _, _, S4, hT, hG⟩
 have H4 : Hid (Live w w4 w.heap.size S4 m ex2) := H3.out.gone hT hG
 have O4 : Hid (ex2.Ok 2) := do_ok O3.out 0 exS
 clear hT hG H3 O3
 go_wp2_with fail
 refine (do_ exP H4.out.tab O4.out (by omega) H4.out.bel.size 1 (lit_in _ _ _ _ _ _ _ (by decide) (by decide))).mono ?_
 rintro e w5 ⟨A5, c5, A6, c6, rfl, _, hs, S5, hT, hG⟩
 rw [ex_evs] at hs ⊢
 obtain ⟨gb, off, rfl, _, hgb, e0, e1, e2, e3, e4, e5, e6, e7⟩ := hs.ev (i := 0) (by simp)
 simp at e0 e1 e2 e3 e4 e5 e6 e7
 change _ = some (Value.string ⟨#[97, 110, 110]⟩) at e0
 have HB5 := Lib.hid (H4.out.gone hT hG).bel
 clear hT hG H4 O4 hs
 go_wp2_with fail
 go_ret
 exact ⟨rfl, HB5.out.alloc HB5.out.size _⟩
end Mod
end Go.Proofs.YtohdlnefgieenaaGreat
