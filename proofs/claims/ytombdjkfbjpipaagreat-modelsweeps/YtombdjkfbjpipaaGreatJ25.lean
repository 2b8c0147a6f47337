/-
  What befalls (layer 10's statements) comes to.
-/
import Derived.Test.YtombdjkfbjpipaaGreatJ24
namespace Go.Proofs.YtombdjkfbjpipaaGreat
open Go.RowKit Go.Shelf
attribute [local go_sem] Oper.semAt_some
namespace Mod
open Go.Law Feed Bk
/-- what an act makes of a table, and its reply -/
def Mo.act (a : Mo) (q : AcM) : Mo × Rep := if q.do_ % 3 = 1 then (a.tick q.by_, Rep.of 0) else if q.do_ % 3 = 2 then (a.sweep (q.by_ % 9), Rep.of 0) else a.do_ q.who q.op
theorem act_ok {a : Mo} {b : Nat} (h : a.Ok b) (q : AcM) (ht : Door.U q.by_) : (a.act q).1.Ok (b + 1) := by
  unfold Mo.act
  split
  · exact (tick_ok h ht).more (by omega)
  · split
    · exact (sweep_ok h _).more (by omega)
    · exact do_ok h _ _
section
variable {w w' : World} {base m t c b : Nat} {S S' : Nat → Prop} {a : Mo}
set_option maxRecDepth 100000 in
set_option maxHeartbeats 2000000 in
theorem befalls (q : AcM) (h : Tab w base S m a) (ho : a.Ok b) (hb : b ≤ 380) (hbw : base ≤ w.heap.size) (hin : q.op.In w) (hd : 0 ≤ q.do_ ∧ q.do_ ≤ 255) (ht : Door.U q.by_) :
    Calls Tryz.prog 17 #[.pointer (some ⟨m, 0, none⟩), .agg q.box] w (Polled w base S m (a.act q).1 (a.act q).2) := by
  obtain ⟨dI, qw, ⟨kind, user, id, st, pr, ttl, A, c, us⟩, by_⟩ := q
  simp only at hd ht hin
  have bb := ((Below.refl w.heap.size w).alloc (Nat.le_refl _) (.cells #[.int .u8 dI, .int .i64 qw, .int .i64 kind, .string user, .int .i64 id, .int .i64 st, .int .i64 pr, .int .u64 ttl, .slice A us.length c, .int .u64 by_] 39)).alloc (by simp) (.cells #[.int .i64 0, .slice none 0 0, .slice none 0 0, .bool false] 43)
  have HX1 : Hid (Is ((w.alloc (.cells #[.int .u8 dI, .int .i64 qw, .int .i64 kind, .string user, .int .i64 id, .int .i64 st, .int .i64 pr, .int .u64 ttl, .slice A us.length c, .int .u64 by_] 39)).alloc (.cells #[.int .i64 0, .slice none 0 0, .slice none 0 0, .bool false] 43)) w.heap.size 39 #[.int .u8 dI, .int .i64 qw, .int .i64 kind, .string user, .int .i64 id, .int .i64 st, .int .i64 pr, .int .u64 ttl, .slice A us.length c, .int .u64 by_]) := (Is.new w _ _ rfl).alloc _
  have HR1 : Hid (Is ((w.alloc (.cells #[.int .u8 dI, .int .i64 qw, .int .i64 kind, .string user, .int .i64 id, .int .i64 st, .int .i64 pr, .int .u64 ttl, .slice A us.length c, .int .u64 by_] 39)).alloc (.cells #[.int .i64 0, .slice none 0 0, .slice none 0 0, .bool false] 43)) (w.heap.size + 1) 43 #[.int .i64 0, .slice none 0 0, .slice none 0 0, .bool false]) := Is.new _ _ _ (by simp)
  have H1 := Lib.hid (h.below bb)
  have G1 : Hid (Gone w S _ S) := Gone.of_below bb
  have IN1 := Lib.hid (hin.below bb)
  have HO := Lib.hid ho
  have hok := Lib.hid h.ok
  have hbw1 := Nat.le_trans hbw bb.size
  have NR : Hid (¬ S (w.heap.size + 1)) := fun hx => by have := (hok.out _ hx).2; omega
  have HT := Lib.hid ht
  obtain ⟨d, rfl⟩ := Int.eq_ofNat_of_zero_le hd.1
  clear bb h ho hin ht
  by_cases h1 : d % 3 = 1
  · have e1 : ((d : Int) % 3 == 1) = true := by simp; omega
    have HE : Hid (a.act ⟨(d : Int), qw, ⟨kind, user, id, st, pr, ttl, A, c, us⟩, by_⟩ = (a.tick by_, Rep.of 0)) := by show _ = _; unfold Mo.act; rw [if_pos (by show (d : Int) % 3 = 1; omega)]
    rw [HE.out]
    go_enter Tryz.func17, Tryz.ntmps17
    go_wp2_with fail
    generalize ((w.alloc (.cells #[.int .u8 (d : Int), .int .i64 qw, .int .i64 kind, .string user, .int .i64 id, .int .i64 st, .int .i64 pr, .int .u64 ttl, .slice A us.length c, .int .u64 by_] 39)).alloc (.cells #[.int .i64 0, .slice none 0 0, .slice none 0 0, .bool false] 43)) = w1 at *
    obtain ⟨t, c', arr, p, g, Sk, hV⟩ := H1.out
    refine (tick hV HO.out.now by_ HT.out).mono ?_
    rintro e w3 ⟨rfl, hT, hG⟩
    have HR3 := Lib.hid (hG.is HR1.out NR.out)
    have H3 := Lib.hid hT.tab
    have G3 := Lib.hid (G1.out.trans hG)
    clear hT hG hV
    have lr := HR3.out.lt
    have r0 := HR3.out.cell' (i := 0) rfl
    have r1 := HR3.out.cell' (i := 1) rfl
    have r2 := HR3.out.cell' (i := 2) rfl
    have r3 := HR3.out.cell' (i := 3) rfl
    have q0 := HR3.out.frozen 0
    have q1 := HR3.out.frozen 1
    have q2 := HR3.out.frozen 2
    have q3 := HR3.out.frozen 3
    go_wp2_with fail
    have HW := wrap HR3.out H3.out G3.out (Nat.le_succ _) NR.out (.int .i64 0) (.slice none 0 0) (.slice none 0 0) (.bool false)
    generalize (((w3.setCell ⟨w.heap.size + 1, 0, none⟩ (.int .i64 0)).setCell ⟨w.heap.size + 1, 1, none⟩ (.slice none 0 0)).setCell ⟨w.heap.size + 1, 2, none⟩ (.slice none 0 0)).setCell ⟨w.heap.size + 1, 3, none⟩ (.bool false) = wz at *
    have n0 := HW.box.cell' (i := 0) rfl
    have n1 := HW.box.cell' (i := 1) rfl
    have n2 := HW.box.cell' (i := 2) rfl
    have n3 := HW.box.cell' (i := 3) rfl
    refine bodyPost_ret (v := .agg #[.int .i64 0, .slice none 0 0, .slice none 0 0, .bool false]) (by simp [results, Tryz.results17, go_sem, n0, n1, n2, n3]) rfl ?_
    exact ⟨none, 0, none, 0, rfl, fun h => absurd rfl h, fun h => absurd rfl h, S, HW.tab, HW.gone⟩
  · by_cases h2 : d % 3 = 2
    · have e1 : ((d : Int) % 3 == 1) = false := by simp; omega
      have e2 : ((d : Int) % 3 == 2) = true := by simp; omega
      have HE : Hid (a.act ⟨(d : Int), qw, ⟨kind, user, id, st, pr, ttl, A, c, us⟩, by_⟩ = (a.sweep (by_ % 9), Rep.of 0)) := by show _ = _; unfold Mo.act; rw [if_neg (by show ¬ (d : Int) % 3 = 1; omega), if_pos (by show (d : Int) % 3 = 2; omega)]
      rw [HE.out]
      go_enter Tryz.func17, Tryz.ntmps17
      go_wp2_with fail
      have hmod : wrap64 (by_.tmod 9) = by_ % 9 := by have h0 := HT.out.1; rw [Int.tmod_eq_emod_of_nonneg h0]; have := Int.emod_nonneg by_ (show (9 : Int) ≠ 0 by decide); have := Int.emod_lt_of_pos by_ (show (0 : Int) < 9 by decide); unfold wrap64; omega
      rw [hmod]
      generalize ((w.alloc (.cells #[.int .u8 (d : Int), .int .i64 qw, .int .i64 kind, .string user, .int .i64 id, .int .i64 st, .int .i64 pr, .int .u64 ttl, .slice A us.length c, .int .u64 by_] 39)).alloc (.cells #[.int .i64 0, .slice none 0 0, .slice none 0 0, .bool false] 43)) = w1 at *
      refine (sweep H1.out HO.out hb hbw1 (by_ % 9)).mono ?_
      rintro e w3 ⟨rfl, S', hT, hG⟩
      have HR3 := Lib.hid (hG.is HR1.out NR.out)
      have H3 := Lib.hid hT
      have G3 := Lib.hid (G1.out.trans hG)
      have N3 : ¬ S' (w.heap.size + 1) := fun hx => (hG.new _ hx).elim NR.out (fun h' => by have := HR1.out.lt; omega)
      clear hT hG
      have lr := HR3.out.lt
      have r0 := HR3.out.cell' (i := 0) rfl
      have r1 := HR3.out.cell' (i := 1) rfl
      have r2 := HR3.out.cell' (i := 2) rfl
      have r3 := HR3.out.cell' (i := 3) rfl
      have q0 := HR3.out.frozen 0
      have q1 := HR3.out.frozen 1
      have q2 := HR3.out.frozen 2
      have q3 := HR3.out.frozen 3
      go_wp2_with fail
      have HW := wrap HR3.out H3.out G3.out (Nat.le_succ _) N3 (.int .i64 0) (.slice none 0 0) (.slice none 0 0) (.bool false)
      generalize (((w3.setCell ⟨w.heap.size + 1, 0, none⟩ (.int .i64 0)).setCell ⟨w.heap.size + 1, 1, none⟩ (.slice none 0 0)).setCell ⟨w.heap.size + 1, 2, none⟩ (.slice none 0 0)).setCell ⟨w.heap.size + 1, 3, none⟩ (.bool false) = wz at *
      have n0 := HW.box.cell' (i := 0) rfl
      have n1 := HW.box.cell' (i := 1) rfl
      have n2 := HW.box.cell' (i := 2) rfl
      have n3 := HW.box.cell' (i := 3) rfl
      refine bodyPost_ret (v := .agg #[.int .i64 0, .slice none 0 0, .slice none 0 0, .bool false]) (by simp [results, Tryz.results17, go_sem, n0, n1, n2, n3]) rfl ?_
      exact ⟨none, 0, none, 0, rfl, fun h => absurd rfl h, fun h => absurd rfl h, S', HW.tab, HW.gone⟩
    · have e1 : ((d : Int) % 3 == 1) = false := by simp; omega
      have e2 : ((d : Int) % 3 == 2) = false := by simp; omega
      have HE : Hid (a.act ⟨(d : Int), qw, ⟨kind, user, id, st, pr, ttl, A, c, us⟩, by_⟩ = a.do_ qw ⟨kind, user, id, st, pr, ttl, A, c, us⟩) := by show _ = _; unfold Mo.act; rw [if_neg (by show ¬ (d : Int) % 3 = 1; omega), if_neg (by show ¬ (d : Int) % 3 = 2; omega)]
      rw [HE.out]
      go_enter Tryz.func17, Tryz.ntmps17
      go_wp2_with fail
      generalize ((w.alloc (.cells #[.int .u8 (d : Int), .int .i64 qw, .int .i64 kind, .string user, .int .i64 id, .int .i64 st, .int .i64 pr, .int .u64 ttl, .slice A us.length c, .int .u64 by_] 39)).alloc (.cells #[.int .i64 0, .slice none 0 0, .slice none 0 0, .bool false] 43)) = w1 at *
      refine (do_ ⟨kind, user, id, st, pr, ttl, A, c, us⟩ H1.out HO.out hb hbw1 qw IN1.out).mono ?_
      generalize a.do_ qw ⟨kind, user, id, st, pr, ttl, A, c, us⟩ = pr2 at *
      rintro e w3 ⟨A1, c1, A2, c2, rfl, hs1, hs2, S', hT, hG⟩
      have l2 := HR1.out.lt
      have HS1 := Lib.hid hs1
      have HS2 := Lib.hid hs2
      clear hs1 hs2
      have HR3 := Lib.hid (hG.is HR1.out NR.out)
      have H3 := Lib.hid hT
      have G3 := Lib.hid (G1.out.trans hG)
      have N3 : ¬ S' (w.heap.size + 1) := fun hx => (hG.new _ hx).elim NR.out (fun h' => by have := HR1.out.lt; omega)
      clear hT hG
      have lr := HR3.out.lt
      have r0 := HR3.out.cell' (i := 0) rfl
      have r1 := HR3.out.cell' (i := 1) rfl
      have r2 := HR3.out.cell' (i := 2) rfl
      have r3 := HR3.out.cell' (i := 3) rfl
      have q0 := HR3.out.frozen 0
      have q1 := HR3.out.frozen 1
      have q2 := HR3.out.frozen 2
      have q3 := HR3.out.frozen 3
      go_wp2_with fail
      have HW := wrap HR3.out H3.out G3.out (Nat.le_succ _) N3 (.int .i64 pr2.2.err) (.slice A1 pr2.2.vals.length c1) (.slice A2 pr2.2.evs.length c2) (.bool pr2.2.lost)
      generalize (((w3.setCell ⟨w.heap.size + 1, 0, none⟩ (.int .i64 pr2.2.err)).setCell ⟨w.heap.size + 1, 1, none⟩ (.slice A1 pr2.2.vals.length c1)).setCell ⟨w.heap.size + 1, 2, none⟩ (.slice A2 pr2.2.evs.length c2)).setCell ⟨w.heap.size + 1, 3, none⟩ (.bool pr2.2.lost) = wz at *
      have n0 := HW.box.cell' (i := 0) rfl
      have n1 := HW.box.cell' (i := 1) rfl
      have n2 := HW.box.cell' (i := 2) rfl
      have n3 := HW.box.cell' (i := 3) rfl
      refine bodyPost_ret (v := .agg #[.int .i64 pr2.2.err, .slice A1 pr2.2.vals.length c1, .slice A2 pr2.2.evs.length c2, .bool pr2.2.lost]) (by simp [results, Tryz.results17, go_sem, n0, n1, n2, n3]) rfl ?_
      exact ⟨A1, c1, A2, c2, rfl, (HW.seq l2 HS1.out).from_ (by omega), (HW.seq l2 HS2.out).from_ (by omega), S', HW.tab, HW.gone⟩
end
end Mod
end Go.Proofs.YtombdjkfbjpipaaGreat
/-
  What acts make of a table (layer 10), one behind the other: plain.
-/
namespace Go.Proofs.YtombdjkfbjpipaaGreat
open Go.RowKit
namespace Mod
open Go.Law Feed Bk
@[go_sem] theorem run_time0 (a b c : Value) (w : World) : Sem.run Tryz.prog (Instr.field 50 (.agg #[a, b, c]) 0) w = .ok a w := by kernel_rfl
@[go_sem] theorem run_time1 (a b c : Value) (w : World) : Sem.run Tryz.prog (Instr.field 50 (.agg #[a, b, c]) 1) w = .ok b w := by kernel_rfl
@[go_sem] theorem run_time2 (a b c : Value) (w : World) : Sem.run Tryz.prog (Instr.field 50 (.agg #[a, b, c]) 2) w = .ok c w := by kernel_rfl
@[go_sem] theorem run_pres2 (a b c : Value) (w : World) : Sem.run Tryz.prog (Instr.field 57 (.agg #[a, b, c]) 2) w = .ok c w := by kernel_rfl
@[go_sem] theorem run_conf1 (w : World) : Sem.run Tryz.prog (Instr.field 24 small.val 1) w = .ok (.int .i64 2) w := by kernel_rfl
@[go_sem] theorem run_conf3 (w : World) : Sem.run Tryz.prog (Instr.field 24 small.val 3) w = .ok (.int .i64 4) w := by kernel_rfl
def Mo.run (a : Mo) (l : List AcM) : Mo := l.foldl (fun a q => (a.act q).1) a
theorem run_nil (a : Mo) : a.run [] = a := rfl
theorem run_snoc (a : Mo) (l : List AcM) (q : AcM) : a.run (l ++ [q]) = ((a.run l).act q).1 := by simp [Mo.run]
theorem run_take (a : Mo) {l : List AcM} {j : Nat} (h : j < l.length) : a.run (l.take (j + 1)) = ((a.run (l.take j)).act l[j]).1 := by rw [List.take_succ_eq_append_getElem h, run_snoc]
theorem run_ok {a : Mo} {b : Nat} (h : a.Ok b) : ∀ {l : List AcM}, (∀ q ∈ l, Door.U q.by_) → (a.run l).Ok (b + l.length) := fun {l} => by
  induction l generalizing a b with
  | nil => intro _; exact h
  | cons q r ih =>
    intro hq
    have h1 := ih (act_ok h q (hq q (by simp))) (fun x hx => hq x (by simp [hx]))
    have e : b + 1 + r.length = b + (q :: r).length := by simp; omega
    rw [e] at h1
    exact h1
theorem run_ok_take {a : Mo} (h : a.Ok 0) {l : List AcM} (hq : ∀ q ∈ l, Door.U q.by_) (hl : l.length ≤ 120) (j : Nat) : (a.run (l.take j)).Ok 120 :=
  (run_ok h (l := l.take j) (fun q hx => hq q (List.mem_of_mem_take hx))).more (by simp; omega)
theorem sat_one {x : Int} (h : x < 18446744073709551615) : Door.sat x 1 = x + 1 := by unfold Door.sat Door.top; rw [if_pos (by omega)]
/-! ### What stays, and what is counted -/
theorem sweep_as (a : Mo) (s : Int) : (a.sweep s).most = a.most ∧ (a.sweep s).lim = a.lim ∧ (a.sweep s).n = a.n ∧ (a.sweep s).room = a.room ∧ (a.sweep s).now = a.now ∧ (a.sweep s).closed = a.closed := by
  unfold Mo.sweep; split <;> exact ⟨rfl, rfl, rfl, rfl, rfl, rfl⟩
theorem write_as (a : Mo) (x : OpV) : (a.write x).1.most = a.most ∧ (a.write x).1.lim = a.lim ∧ (a.write x).1.n = a.n ∧ (a.write x).1.room = a.room ∧ (a.write x).1.now = a.now ∧ (a.write x).1.closed = a.closed := by
  unfold Mo.write; split <;> exact ⟨rfl, rfl, rfl, rfl, rfl, rfl⟩
theorem watch_as (a : Mo) (who : Nat) (u : ByteArray) : (a.watch who u).1.most = a.most ∧ (a.watch who u).1.lim = a.lim ∧ (a.watch who u).1.n = a.n ∧ (a.watch who u).1.room = a.room ∧ (a.watch who u).1.now = a.now ∧ (a.watch who u).1.closed = a.closed := by
  unfold Mo.watch; split <;> exact ⟨rfl, rfl, rfl, rfl, rfl, rfl⟩
theorem ask_as (a : Mo) (who : Nat) (x : OpW) : (a.ask who x).1.most = a.most ∧ (a.ask who x).1.lim = a.lim ∧ (a.ask who x).1.n = a.n ∧ (a.ask who x).1.room = a.room ∧ (a.ask who x).1.now = a.now := by
  unfold Mo.ask
  split
  · have h := write_as a x.v; exact ⟨h.1, h.2.1, h.2.2.1, h.2.2.2.1, h.2.2.2.2.1⟩
  · split
    · exact ⟨rfl, rfl, rfl, rfl, rfl⟩
    · split
      · exact ⟨rfl, rfl, rfl, rfl, rfl⟩
      · split
        · exact ⟨rfl, rfl, rfl, rfl, rfl⟩
        · split
          · exact ⟨rfl, rfl, rfl, rfl, rfl⟩
          · split
            · have h := watch_as a who x.user; exact ⟨h.1, h.2.1, h.2.2.1, h.2.2.2.1, h.2.2.2.2.1⟩
            · split
              · exact ⟨rfl, rfl, rfl, rfl, rfl⟩
              · exact ⟨rfl, rfl, rfl, rfl, rfl⟩
theorem do_as (a : Mo) (who : Int) (x : OpW) : (a.do_ who x).1.most = a.most ∧ (a.do_ who x).1.lim = a.lim ∧ (a.do_ who x).1.n = a.n ∧ (a.do_ who x).1.room = a.room ∧ (a.do_ who x).1.now = a.now := by
  unfold Mo.do_
  split
  · exact ask_as a _ x
  · exact ⟨rfl, rfl, rfl, rfl, rfl⟩
theorem act_as (a : Mo) (q : AcM) : (a.act q).1.most = a.most ∧ (a.act q).1.lim = a.lim ∧ (a.act q).1.n = a.n ∧ (a.act q).1.room = a.room := by
  unfold Mo.act
  split
  · exact ⟨rfl, rfl, rfl, rfl⟩
  · split
    · have h := sweep_as a (q.by_ % 9); exact ⟨h.1, h.2.1, h.2.2.1, h.2.2.2.1⟩
    · have h := do_as a q.who q.op; exact ⟨h.1, h.2.1, h.2.2.1, h.2.2.2.1⟩
theorem run_as (l : List AcM) : ∀ a : Mo, (a.run l).most = a.most ∧ (a.run l).lim = a.lim ∧ (a.run l).n = a.n ∧ (a.run l).room = a.room := by
  induction l with
  | nil => intro a; exact ⟨rfl, rfl, rfl, rfl⟩
  | cons q r ih =>
    intro a
    have h1 := ih (a.act q).1
    have h2 := act_as a q
    exact ⟨h1.1.trans h2.1, h1.2.1.trans h2.2.1, h1.2.2.1.trans h2.2.2.1, h1.2.2.2.trans h2.2.2.2⟩
theorem act_now (a : Mo) (q : AcM) : (a.act q).1.now = if q.do_ % 3 = 1 then Door.sat a.now q.by_ else a.now := by
  unfold Mo.act
  split
  · rfl
  · split
    · exact (sweep_as a _).2.2.2.2.1
    · exact (do_as a _ _).2.2.2.2
/-- is this act counted? -/
def counts (n : Nat) (q : AcM) : Bool :=
  if q.do_ % 3 = 1 then false else if q.do_ % 3 = 2 then decide (0 ≤ q.by_ % 9 ∧ q.by_ % 9 < (n : Int))
  else decide (goodB q.op = true ∧ (0 ≤ q.who ∧ q.who < 8) ∧ (q.op.kind = 1 ∨ q.op.kind = 2 ∨ q.op.kind = 3))
theorem write_seq (a : Mo) (x : OpV) : (a.write x).1.seq = Door.sat a.seq 1 := by unfold Mo.write; split <;> rfl
theorem watch_seq (a : Mo) (who : Nat) (u : ByteArray) : (a.watch who u).1.seq = a.seq := by unfold Mo.watch; split <;> rfl
theorem act_seq (a : Mo) (q : AcM) : (a.act q).1.seq = if counts a.n q then Door.sat a.seq 1 else a.seq := by
  unfold Mo.act counts
  split
  · rfl
  · split
    · unfold Mo.sweep
      by_cases h : 0 ≤ q.by_ % 9 ∧ q.by_ % 9 < (a.n : Int)
      · rw [if_pos h, if_pos (decide_eq_true h)]; rfl
      · rw [if_neg h, if_neg (by simpa using h)]
    · unfold Mo.do_
      by_cases h : goodB q.op = true ∧ (0 ≤ q.who ∧ q.who < 8)
      · rw [if_pos h]
        unfold Mo.ask
        by_cases h3 : q.op.kind = 1 ∨ q.op.kind = 2 ∨ q.op.kind = 3
        · rw [if_pos h3, if_pos (decide_eq_true ⟨h.1, h.2, h3⟩)]; exact write_seq a _
        · rw [if_neg h3, decide_eq_false (p := goodB q.op = true ∧ (0 ≤ q.who ∧ q.who < 8) ∧ (q.op.kind = 1 ∨ q.op.kind = 2 ∨ q.op.kind = 3)) (fun hd => h3 hd.2.2), if_neg Bool.false_ne_true]
          split
          · rfl
          · split
            · rfl
            · split
              · rfl
              · split
                · rfl
                · split
                  · exact watch_seq a _ _
                  · split <;> rfl
      · rw [if_neg h, decide_eq_false (p := goodB q.op = true ∧ (0 ≤ q.who ∧ q.who < 8) ∧ (q.op.kind = 1 ∨ q.op.kind = 2 ∨ q.op.kind = 3)) (fun hd => h ⟨hd.1, hd.2.1⟩), if_neg Bool.false_ne_true]
end Mod
end Go.Proofs.YtombdjkfbjpipaaGreat
/-
  A table (layer 10) behind a Close; how many sessions a user has, and whom a client watches; sweeps put in anywhere: plain.
-/
namespace Go.Proofs.YtombdjkfbjpipaaGreat
open Go.RowKit
namespace Mod
open Go.Law Feed Bk Go.Proofs.YtombdjkfbjpipaaGreat.OmapB
section
variable {a : Mo} {b : Nat}
/-! ### Behind a Close -/
/-- the error's number behind a Close -/
def shutE (who : Int) (x : OpW) : Int := if goodB x = true ∧ (0 ≤ who ∧ who < 8) then (if x.kind = 8 then 0 else 5) else 1
theorem goodB_kind {x : OpW} (h : goodB x = true) : 1 ≤ x.kind ∧ x.kind ≤ 9 := by
  unfold goodB at h
  by_cases h1 : 1 ≤ x.kind ∧ x.kind ≤ 9
  · exact h1
  · exfalso
    rw [if_neg (by omega), if_neg (by omega), if_neg (by omega), if_neg (by omega), decide_eq_false (by omega)] at h
    cases h
theorem shut_write (h : a.closed = true) (x : OpV) : a.write x = (a.take, 5) := by unfold Mo.write; rw [if_pos h]
theorem shut_do (h : a.closed = true) (who : Int) (x : OpW) : (a.do_ who x).1.bk = a.bk ∧ (a.do_ who x).1.closed = true ∧ (a.do_ who x).2.vals = [] ∧ (a.do_ who x).2.err = shutE who x := by
  unfold Mo.do_ shutE
  split
  · rename_i hg
    have hk := goodB_kind hg.1
    unfold Mo.ask
    split
    · rename_i h1
      rw [shut_write h, if_neg (by omega)]
      exact ⟨rfl, h, rfl, rfl⟩
    · split
      · exact ⟨rfl, h, rfl, rfl⟩
      · exact ⟨rfl, h, rfl, rfl⟩
  · exact ⟨rfl, h, rfl, rfl⟩
theorem pres_of {a' : Mo} (hn : a'.n = a.n) (ht : a'.now = a.now) (hb : a'.bk = a.bk) (u : ByteArray) : a'.pres u = a.pres u := by unfold Mo.pres; rw [hn, ht, hb]
theorem sweep_pres (ho : a.Ok b) (s : Int) (u : ByteArray) : (a.sweep s).pres u = a.pres u := by
  unfold Mo.sweep
  split
  · rename_i hs
    show presS a.now (sesK u (upd a.bk s.toNat (sweepB a.now (a.bk s.toNat)) (str u a.n))) = presS a.now (sesK u (a.bk (str u a.n)))
    by_cases e : str u a.n = s.toNat
    · rw [e, upd_same]
      exact pres_sweep lt tri (ho.fit s.toNat (by omega)).book.1 (Int.le_refl _)
    · rw [upd_other _ _ e]
  · rfl
theorem shut_pres (ho : a.Ok b) (h : a.closed = true) (q : AcM) (h1 : q.do_ % 3 ≠ 1) (u : ByteArray) : (a.act q).1.pres u = a.pres u := by
  unfold Mo.act
  rw [if_neg h1]
  split
  · exact sweep_pres ho _ u
  · have hd := do_as a q.who q.op
    exact pres_of hd.2.2.1 hd.2.2.2.2 (shut_do h q.who q.op).1 u
theorem shut_act (h : a.closed = true) (q : AcM) : (a.act q).1.closed = true := by
  unfold Mo.act
  split
  · exact h
  · split
    · exact (sweep_as a _).2.2.2.2.2.trans h
    · exact (shut_do h _ _).2.1
theorem shut_run (l : List AcM) : ∀ {a : Mo}, a.closed = true → (a.run l).closed = true := by
  induction l with
  | nil => intro a h; exact h
  | cons q r ih => intro a h; exact ih (shut_act h q)
def closeOp : OpW := ⟨9, ⟨#[]⟩, 0, 0, 0, 0, none, 0, []⟩
theorem do_close (a : Mo) : (a.do_ 0 closeOp).1.closed = true := by
  unfold Mo.do_
  rw [if_pos ⟨by decide, by decide⟩]
  unfold Mo.ask
  rw [if_neg (by decide), if_neg (by decide)]
  split
  · rename_i h; exact h
  · rw [if_neg (by decide), if_neg (by decide), if_neg (by decide), if_neg (by decide)]
/-! ### How many sessions -/
def Capped (m : Nat) (a : Mo) : Prop := ∀ k, k < a.n → Room m (a.bk k)
theorem capped_new (q : Cf) (m : Nat) : Capped m (Mo.new q) := fun _ _ => Room.nil m
theorem capped_become {m : Nat} (h : Capped m a) {k : Nat} {nb : List (ByteArray × En)} (hn : Room m nb) (cs : List Ch) (seq : Int) : Capped m (a.become k nb cs seq) := fun i hi => by
  show Room m (upd a.bk k nb i)
  by_cases e : i = k
  · subst e; rw [upd_same]; exact hn
  · rw [upd_other _ _ e]; exact h i hi
theorem capped_act {m : Nat} (ho : a.Ok b) (hm : a.most = (m : Int)) (h : Capped m a) (q : AcM) : Capped m (a.act q).1 := by
  unfold Mo.act
  split
  · exact h
  · split
    · unfold Mo.sweep
      split
      · rename_i hs
        exact capped_become (a := a.take) h (Room.sweep (h _ (by omega))) _ _
      · exact h
    · unfold Mo.do_
      split
      · unfold Mo.ask
        split
        · unfold Mo.write
          split
          · exact h
          · have hk := str_lt q.op.v.user ho.n1
            refine capped_become (a := a.take) h (Room.become lt (h _ hk) ?_) _ _
            unfold wrS
            rw [hm]
            exact wrote_room (live_up _ ((ho.fit _ hk).book.ses lt _)) (Nat.le_trans (live_length _ _) (Room.ses (h _ hk) _))
        · split
          · exact fun k hk => h k hk
          · split
            · exact h
            · split
              · exact h
              · split
                · exact h
                · split
                  · unfold Mo.watch; split <;> exact h
                  · split
                    · exact h
                    · exact h
      · exact h
theorem capped_pres {m : Nat} (ho : a.Ok b) (h : Capped m a) (u : ByteArray) : (a.pres u).2.2 ≤ (m : Int) := by
  have h1 := Room.ses (h _ (str_lt u ho.n1)) u
  have h2 := live_length a.now (sesK u (a.bk (str u a.n)))
  show (((live a.now (sesK u (a.bk (str u a.n)))).length : Nat) : Int) ≤ _
  omega
/-! ### Whom a client watches -/
theorem sum_upd {f : Nat → Nat} {j v : Nat} : ∀ {n : Nat}, j < n → ((List.range n).map (upd f j v)).sum + f j = ((List.range n).map f).sum + v
  | 0, h => by omega
  | n + 1, h => by
    rw [List.range_succ, List.map_append, List.sum_append, List.map_append, List.sum_append]
    simp only [List.map_cons, List.map_nil, List.sum_cons, List.sum_nil, Nat.add_zero]
    by_cases e : j = n
    · subst e
      rw [upd_same]
      have : (List.range j).map (upd f j v) = (List.range j).map f := List.map_congr_left fun i hi => upd_other _ _ (by have := List.mem_range.1 hi; omega)
      rw [this]; omega
    · have := sum_upd (f := f) (j := j) (v := v) (n := n) (by omega)
      rw [upd_other f v (Ne.symm e)]; omega
theorem watched_feed (a : Mo) (who j : Nat) (s : St) (hj : j < a.n) : (a.feed1 j s).watched who + ((a.fd j).wat who).length = a.watched who + (s.wat who).length := by
  have h := sum_upd (f := fun k => ((a.fd k).wat who).length) (j := j) (v := (s.wat who).length) hj
  unfold Mo.watched
  rw [← h]
  congr 2
  refine List.map_congr_left fun k _ => ?_
  show ((upd a.fd j s k).wat who).length = _
  unfold upd
  split <;> rfl
theorem watched_self (a : Mo) (k who : Nat) (v : List (ByteArray × Int)) (hk : k < a.n) : (a.feed1 k { a.fd k with wat := upd (a.fd k).wat who v }).watched who + ((a.fd k).wat who).length = a.watched who + v.length := by
  have h := watched_feed a who k { a.fd k with wat := upd (a.fd k).wat who v } hk
  have e : (upd (a.fd k).wat who v who) = v := upd_same _ _ _
  simp only [e] at h
  exact h
theorem watched_other (a : Mo) (k : Nat) {i who : Nat} (v : List (ByteArray × Int)) (hk : k < a.n) (hi : i ≠ who) : (a.feed1 k { a.fd k with wat := upd (a.fd k).wat who v }).watched i = a.watched i := by
  have h := watched_feed a i k { a.fd k with wat := upd (a.fd k).wat who v } hk
  have e : (upd (a.fd k).wat who v i) = (a.fd k).wat i := upd_other _ _ hi
  simp only [e] at h
  exact Nat.add_right_cancel h
theorem le_of_sum {x y z u lim : Nat} (h : x + y = z + u) (h2 : z + u ≤ lim + y) : x ≤ lim := by omega
theorem watched_of {a' : Mo} {who : Nat} (hn : a'.n = a.n) (h : ∀ k, (a'.fd k).wat who = (a.fd k).wat who) : a'.watched who = a.watched who := by
  unfold Mo.watched
  rw [hn]
  congr 1
  exact List.map_congr_left fun k _ => by rw [h]
theorem become_wat (a : Mo) (k : Nat) (nb : List (ByteArray × En)) (cs : List Ch) (seq : Int) (i : Nat) : ((a.become k nb cs seq).fd i).wat = (a.fd i).wat := by
  show (upd a.fd k _ i).wat = _
  by_cases e : i = k
  · subst e; rw [upd_same, tell_wat]
  · rw [upd_other _ _ e]
theorem putK_has {κ ν : Type} [DecidableEq κ] (lt : κ → κ → Prop) [DecidableRel lt] (ht : Tri lt) {k : κ} {v : ν} : ∀ {l : List (κ × ν)}, Rises lt l → (getK k l).isSome = true → (putK lt k v l).length = l.length
  | [], _, h => by cases h
  | p :: r, hr, h => by
    rw [getK] at h
    by_cases e : p.1 = k
    · rw [putK, if_neg (by rw [e]; exact ht.irr k), if_neg (by rw [e]; exact ht.irr k)]; rfl
    · rw [if_neg e] at h
      have h1 : lt p.1 k := by
        cases hg : getK k r with
        | none => rw [hg] at h; cases h
        | some x => exact hr.head _ (getK_mem hg)
      rw [putK, if_neg (fun h2 => ht.irr _ (ht.tr h1 h2)), if_pos h1, List.length_cons, List.length_cons, putK_has lt ht hr.tail h]
/-- whom clients watch: rising -/
def Named (a : Mo) : Prop := ∀ k i, Rises OmapU.lt ((a.fd k).wat i)
theorem named_feed (h : Named a) (j : Nat) {s : St} (hs : ∀ i, Rises OmapU.lt (s.wat i)) : Named (a.feed1 j s) := fun k i => by
  show Rises OmapU.lt ((upd a.fd j s k).wat i)
  unfold upd
  split
  · exact hs i
  · exact h k i
theorem named_upd {f : Nat → List (ByteArray × Int)} (h : ∀ i, Rises OmapU.lt (f i)) {who : Nat} {v : List (ByteArray × Int)} (hv : Rises OmapU.lt v) (i : Nat) : Rises OmapU.lt (upd f who v i) := by
  unfold upd; split
  · exact hv
  · exact h i
theorem named_watch (h : Named a) (who : Nat) (u : ByteArray) : Named (a.watch who u).1 := by
  unfold Mo.watch
  split
  · exact h
  · exact named_feed h _ fun i => named_upd (fun i => h _ i) (putK_rises _ OmapU.tri (h _ _)) i
theorem watch_le {lim who : Nat} (ho : a.Ok b) (hl : a.lim = (lim : Int)) (hN : Named a) (h : a.watched who ≤ lim) (i : Nat) (hi : a.watched i ≤ lim) (u : ByteArray) : (a.watch who u).1.watched i ≤ lim := by
  unfold Mo.watch
  split
  · exact hi
  · rename_i hc
    have hk := str_lt u ho.n1
    by_cases e : i = who
    · subst e
      refine le_of_sum (watched_self a (str u a.n) i (putK OmapU.lt u 0 ((a.fd (str u a.n)).wat i)) hk) ?_
      cases hh : (a.fd (str u a.n)).has i u with
      | true => have := putK_has OmapU.lt OmapU.tri (v := (0 : Int)) (hN (str u a.n) i) hh; omega
      | false =>
        have := (putK_length OmapU.lt u (0 : Int) ((a.fd (str u a.n)).wat i)).1
        have : ¬ (a.lim ≤ (a.watched i : Int)) := fun hx => hc ⟨hh, hx⟩
        omega
    · exact Nat.le_trans (Nat.le_of_eq (watched_other a (str u a.n) _ hk e)) hi
/-- no client watches more than there may be -/
structure Wats (lim : Nat) (a : Mo) : Prop where
  named : Named a
  le : ∀ i, a.watched i ≤ lim
theorem wats_new (q : Cf) (lim : Nat) : Wats lim (Mo.new q) := ⟨fun _ _ => Rises.nil, fun i => by
  have : (Mo.new q).watched i = 0 := by
    unfold Mo.watched
    induction (Mo.new q).n with
    | zero => rfl
    | succ n ih => rw [List.range_succ, List.map_append, List.sum_append, ih]; rfl
  omega⟩
theorem wats_of {lim : Nat} {a' : Mo} (h : Wats lim a) (hn : a'.n = a.n) (he : ∀ k, (a'.fd k).wat = (a.fd k).wat) : Wats lim a' :=
  ⟨fun k i => by rw [he]; exact h.named k i, fun i => by rw [watched_of hn (fun k => by rw [he])]; exact h.le i⟩
theorem wats_watch {lim : Nat} (ho : a.Ok b) (hl : a.lim = (lim : Int)) (h : Wats lim a) (who : Nat) (u : ByteArray) : Wats lim (a.watch who u).1 :=
  ⟨named_watch h.named who u, fun i => watch_le ho hl h.named (h.le who) i (h.le i) u⟩
theorem wats_act {lim : Nat} (ho : a.Ok b) (hl : a.lim = (lim : Int)) (h : Wats lim a) (q : AcM) : Wats lim (a.act q).1 := by
  unfold Mo.act
  split
  · exact wats_of h rfl fun _ => rfl
  · split
    · unfold Mo.sweep
      split
      · exact wats_of h rfl fun k => become_wat a.take _ _ _ _ k
      · exact h
    · unfold Mo.do_
      split
      · unfold Mo.ask
        split
        · unfold Mo.write
          split
          · exact wats_of h rfl fun _ => rfl
          · exact wats_of h rfl fun k => become_wat a.take _ _ _ _ k
        · split
          · exact wats_of h rfl fun k => by show (if k < a.n then drained _ (a.fd k) else a.fd k).wat = _; split <;> rfl
          · split
            · exact h
            · split
              · exact h
              · split
                · exact h
                · split
                  · exact wats_watch ho hl h _ _
                  · split
                    · have hk := str_lt q.op.user ho.n1
                      refine ⟨named_feed h.named _ fun i => named_upd (fun i => h.named _ i) (outK_rises _ (h.named _ _)) i, fun i => ?_⟩
                      by_cases e : i = q.who.toNat
                      · subst e
                        refine le_of_sum (watched_self a (str q.op.user a.n) _ (outK q.op.user ((a.fd (str q.op.user a.n)).wat q.who.toNat)) hk) ?_
                        have := outK_length q.op.user ((a.fd (str q.op.user a.n)).wat q.who.toNat)
                        have := h.le q.who.toNat
                        omega
                      · exact Nat.le_trans (Nat.le_of_eq (watched_other a (str q.op.user a.n) _ hk e)) (h.le i)
                    · exact wats_of h rfl fun _ => rfl
      · exact h
theorem wats_run {lim : Nat} : ∀ {l : List AcM} {a : Mo} {b : Nat}, a.Ok b → a.lim = (lim : Int) → (∀ q ∈ l, Door.U q.by_) → Wats lim a → Wats lim (a.run l)
  | [], _, _, _, _, _, h => h
  | q :: r, a, b, ho, hl, hq, h => wats_run (l := r) (act_ok ho q (hq q (by simp))) ((act_as a q).2.1.trans hl) (fun x hx => hq x (by simp [hx])) (wats_act ho hl h q)
theorem capped_run {m : Nat} : ∀ {l : List AcM} {a : Mo} {b : Nat}, a.Ok b → a.most = (m : Int) → (∀ q ∈ l, Door.U q.by_) → Capped m a → Capped m (a.run l)
  | [], _, _, _, _, _, h => h
  | q :: r, a, b, ho, hl, hq, h => capped_run (l := r) (act_ok ho q (hq q (by simp))) ((act_as a q).1.trans hl) (fun x hx => hq x (by simp [hx])) (capped_act ho hl h q)
theorem nodup_le {α : Type} : ∀ (xs ys : List α), xs.Nodup → (∀ x ∈ xs, x ∈ ys) → xs.length ≤ ys.length
  | [], _, _, _ => Nat.zero_le _
  | x :: r, ys, hn, hs => by
    obtain ⟨s, t, rfl⟩ := List.append_of_mem (hs x (by simp))
    rw [List.nodup_cons] at hn
    have := nodup_le r (s ++ t) hn.2 fun y hy => by
      have h1 := hs y (by simp [hy])
      simp only [List.mem_append, List.mem_cons] at h1 ⊢
      rcases h1 with h1 | h1 | h1
      · exact .inl h1
      · subst h1; exact absurd hy hn.1
      · exact .inr h1
    simp only [List.length_append, List.length_cons] at this ⊢
    omega
def Mo.hasW (a : Mo) (who : Nat) (u : ByteArray) : Bool := (a.fd (str u a.n)).has who u
theorem met_le (ho : a.Ok b) {who : Nat} {met : List ByteArray} (hn : met.Nodup) (hm : ∀ u ∈ met, a.hasW who u = true) : met.length ≤ a.watched who := by
  have h := nodup_le met ((List.range a.n).flatMap fun k => ((a.fd k).wat who).map Prod.fst) hn fun u hu => by
    rw [List.mem_flatMap]
    refine ⟨str u a.n, List.mem_range.2 (str_lt u ho.n1), ?_⟩
    have h1 := hm u hu
    unfold Mo.hasW St.has at h1
    cases hg : getK u ((a.fd (str u a.n)).wat who) with
    | none => rw [hg] at h1; cases h1
    | some v => exact List.mem_map.2 ⟨(u, v), getK_mem hg, rfl⟩
  refine Nat.le_trans h (Nat.le_of_eq ?_)
  rw [List.length_flatMap]
  unfold Mo.watched
  congr 1
  exact List.map_congr_left fun k _ => by simp
theorem watch_has (a : Mo) {who : Nat} {u : ByteArray} (h0 : (a.watch who u).2 = 0) : (a.watch who u).1.hasW who u = true := by
  unfold Mo.watch at h0 ⊢
  split at h0
  · cases h0
  · rename_i hc
    rw [if_neg hc]
    show (getK u ((upd a.fd (str u a.n) _ (str u a.n)).wat who)).isSome = true
    rw [upd_same]
    show (getK u (upd _ who _ who)).isSome = true
    rw [upd_same, getK_put_same]
    rfl
theorem watch_old (a : Mo) {who : Nat} {u : ByteArray} (h : a.hasW who u = true) : (a.watch who u).2 = 0 := by
  unfold Mo.watch
  rw [if_neg (fun hc => by rw [Mo.hasW] at h; rw [hc.1] at h; cases h)]
theorem watch_err (a : Mo) (who : Nat) (u : ByteArray) : (a.watch who u).2 = 0 ∨ (a.watch who u).2 = 4 := by
  unfold Mo.watch; split
  · exact .inr rfl
  · exact .inl rfl
theorem watch_keeps (a : Mo) {who : Nat} {u v : ByteArray} (h : a.hasW who v = true) : (a.watch who u).1.hasW who v = true := by
  unfold Mo.watch
  split
  · exact h
  · show (getK v ((upd a.fd (str u a.n) _ (str v a.n)).wat who)).isSome = true
    by_cases e : str v a.n = str u a.n
    · rw [e, upd_same]
      show (getK v (upd _ who _ who)).isSome = true
      rw [upd_same]
      by_cases e2 : v = u
      · subst e2; rw [getK_put_same]; rfl
      · rw [getK_put_other _ OmapU.tri e2]
        unfold Mo.hasW St.has at h
        rw [e] at h
        exact h
    · rw [upd_other _ _ e]; exact h
end
end Mod
end Go.Proofs.YtombdjkfbjpipaaGreat
