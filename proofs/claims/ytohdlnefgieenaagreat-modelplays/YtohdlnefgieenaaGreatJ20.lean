/-
  What the table's (layer 10) Presence, Time, Tick, Stored, Sweep and write come to.
-/
import Derived.Test.YtohdlnefgieenaaGreatJ19
import Derived.StillTailTactics
namespace Go.Proofs.YtohdlnefgieenaaGreat
open Go.RowKit Go.Shelf
attribute [local go_sem] Oper.semAt_some
namespace Mod
open Go.Law Feed Bk
structure Mo.Ok (a : Mo) (b : Nat) : Prop where
 n1 : 1 ≤ a.n
 n8 : a.n ≤ 8
 room : a.room ≤ 16
 now : Door.U a.now
 seq : Door.U a.seq
 fit : ∀ k, k < a.n → Fit b (a.bk k)
 wat : ∀ k, k < a.n → ∀ i, i < 8 → ((a.fd k).wat i).length ≤ b
 que : ∀ k, k < a.n → ∀ i, i < 8 → ((a.fd k).que i).length ≤ 16
section
variable {w w' : World} {base m t c b : Nat} {S S' : Nat → Prop} {arr : Array Value} {p : Nat → Option Addr} {g : Nat → Nat} {Sk : Nat → Nat → Prop} {a : Mo}
set_option maxRecDepth 100000 in
set_option maxHeartbeats 1000000 in
theorem presence (h : Tab w base S m a) (ho : a.Ok b) (hb : b ≤ 380) (u : ByteArray) (hu : u.size ≤ maxLen) {s0 s1 s2 : Int} (hp : a.pres u = (s0, s1, s2)) :
  Calls Tryz.prog 16 #[.pointer (some ⟨m, 0, none⟩), .string u] w fun e w' => e = .returned (.agg #[.int .i64 s0, .int .i64 s1, .int .i64 s2]) ∧ Below w.heap.size w w' := by
 obtain ⟨t, c, arr, p, g, Sk, h⟩ := h
 have hlt : str u a.n < a.n := str_lt u ho.n1
 obtain ⟨k, hk⟩ : ∃ k, str u a.n = k := ⟨_, rfl⟩
 rw [hk] at hlt
 have H := Lib.hid h
 have HO := Lib.hid ho
 have HP : Hid (presS a.now (sesK u (a.bk k)) = (s0, s1, s2)) := by show _ = _; rw [← hk]; exact hp
 have HK := Lib.hid hk
 clear h ho hp hk
 have b0 : Below w.heap.size w (w.alloc (.cells #[.int .i64 0, .int .i64 0, .int .i64 0] 57)).drew := Law.below_drewN ((Below.refl w.heap.size w).alloc (Nat.le_refl _) (.cells #[.int .i64 0, .int .i64 0, .int .i64 0] 57)) 1
 have HX : Hid (Is (w.alloc (.cells #[.int .i64 0, .int .i64 0, .int .i64 0] 57)).drew w.heap.size 57 #[.int .i64 0, .int .i64 0, .int .i64 0]) := (Is.drewN (Is.new w 57 #[.int .i64 0, .int .i64 0, .int .i64 0] rfl) 1)
 have H0 := Lib.hid (H.out.below b0)
 have HB0 := Lib.hid b0
 have c2 : World.cell? _ ⟨m, 2, none⟩ = some (.int .u64 a.now) := H0.out.box.cell' rfl
 have l2 := H0.out.box.lt
 have cm : w.cell? ⟨m, 2, none⟩ = some (.int .u64 a.now) := H.out.box.cell' rfl
 have lm := H.out.box.lt
 clear b0 H
 go_enter Tryz.func16, Tryz.ntmps16
 go_wp2_with fail
 refine wp_region_held_drew (S := fun w' => w'.cell? ⟨m, 2, none⟩ = some (.int .u64 a.now) ∧ m < w'.heap.size) (by kernel_rfl) ⟨c2, l2⟩ (fun hS0 => ?_)
 refine Go.Law.tk 0 ⟨some 5, .move (.tmp 0), _, _, _, _⟩ (v := .pointer (some ⟨m, 0, none⟩)) hS0 ?_ ?_
 ·intro w' hSw
  go_simp
 try simp only [Go.Law.pz]
 refine Go.Law.tk 1 ⟨some 6, .move (.tmp 1), _, _, _, _⟩ (v := .string u) hS0 ?_ ?_
 ·intro w' hSw
  go_simp
 try simp only [Go.Law.pz]
 refine Go.Law.tk 6 ⟨some 11, .move (.tmp 1), _, _, _, _⟩ (v := .string u) hS0 ?_ ?_
 ·intro w' hSw
  go_simp
 try simp only [Go.Law.pz]
 refine Go.Law.tk 7 ⟨some 12, .move (.tmp 0), _, _, _, _⟩ (v := .pointer (some ⟨m, 0, none⟩)) hS0 ?_ ?_
 ·intro w' hSw
  go_simp
 try simp only [Go.Law.pz]
 refine Go.Law.tk 8 ⟨some 13, .nilCheck (.tmp 12), _, _, _, _⟩ (v := .pointer (some ⟨m, 0, none⟩)) hS0 ?_ ?_
 ·intro w' hSw
  go_simp
 try simp only [Go.Law.pz]
 refine Go.Law.tk 9 ⟨some 14, .fieldAddr 67 (.tmp 13) 2, _, _, _, _⟩ (v := .pointer (some ⟨m, 2, none⟩)) hS0 ?_ ?_
 ·intro w' hSw
  go_simp
 try simp only [Go.Law.pz]
 refine Go.Law.tk 10 ⟨some 15, .fieldAddr 50 (.tmp 14) 0, _, _, _, _⟩ (v := .pointer (some ⟨m, 2, none⟩)) hS0 ?_ ?_
 ·intro w' hSw
  go_simp
 try simp only [Go.Law.pz]
 refine Go.Law.tk 11 ⟨some 16, .load 22 (.tmp 15), _, _, _, _⟩ (v := .int .u64 a.now) hS0 ?_ ?_
 ·intro w' hSw
  obtain ⟨s1, s2⟩ := hSw
  go_simp
 try simp only [Go.Law.pz]
 generalize (w.alloc (.cells #[.int .i64 0, .int .i64 0, .int .i64 0] 57)).drew = W at *
 refine wpAnyH_ready (rs := [2]) (by kernel_rfl) (by simp) ?_
 refine AllReadyH.cons (o := ⟨some 7, .call { callee := .value (.func 42), args := #[.tmp 5, .tmp 6], argTypes := _ }, _, _, _, _⟩) rfl (fun K hK => ?_) AllReadyH.nil
 go_simp
 refine Calls.mono (of_ H0.out u hu HO.out.n1 HO.out.n8 HK.out) ?_
 rintro e w1 ⟨rfl, b1⟩
 have H1 := Lib.hid (H0.out.below b1)
 have HX1 := Lib.hid (HX.out.below b1 HX.out.lt)
 have HB1 := Lib.hid (HB0.out.trans (b1.mono HB0.out.size))
 go_wp2_with fail
 refine hK.out _ _ ⟨(b1.cell (p := ⟨m, 2, none⟩) l2).trans c2, Nat.lt_of_lt_of_le l2 b1.size⟩ (fun hS1 => ?_)
 clear hK K
 try simp only [Go.Law.pz]
 clear b1 H0 HX HB0
 have d0 : w1.cell? ⟨t, k * 2, none⟩ = some (.pointer (p k)) := (H1.out.row.cell _).trans (H1.out.bkc k hlt)
 have l3 := H1.out.row.lt
 refine Go.Law.tk 3 ⟨some 8, .nilCheck (.tmp 7), _, _, _, _⟩ (v := .pointer (some ⟨t, k * 2, none⟩)) hS1 ?_ ?_
 ·intro w' hSw
  go_simp
 try simp only [Go.Law.pz]
 refine Go.Law.tk 4 ⟨some 9, .fieldAddr 74 (.tmp 8) 0, _, _, _, _⟩ (v := .pointer (some ⟨t, k * 2, none⟩)) hS1 ?_ ?_
 ·intro w' hSw
  go_simp
 try simp only [Go.Law.pz]
 refine wpAnyH_ready (rs := [5]) (by kernel_rfl) (by simp) ?_
 refine AllReadyH.cons (o := ⟨some 10, .load 72 (.tmp 9), _, _, _, _⟩) rfl (fun K hK => ?_) AllReadyH.nil
 go_simp
 refine hK.out _ _ hS1 (fun hS2 => ?_)
 clear hK K
 try simp only [Go.Law.pz]
 refine wpAnyH_ready (rs := [12]) (by kernel_rfl) (by simp) ?_
 refine AllReadyH.cons (o := ⟨some 17, .call { callee := .value (.func 41), args := #[.tmp 10, .tmp 11, .tmp 16], argTypes := _ }, _, _, _, _⟩) rfl (fun K hK => ?_) AllReadyH.nil
 go_simp
 refine Calls.mono (Bk.presence u a.now HP.out (H1.out.book k hlt) (HO.out.fit k hlt).book.1 (Nat.le_trans ((HO.out.fit k hlt).of u) (by omega))) ?_
 rintro e w2 ⟨rfl, b2⟩
 have HX2 := Lib.hid (HX1.out.below b2 HX1.out.lt)
 have HB2 := Lib.hid (HB1.out.trans (b2.mono HB1.out.size))
 go_wp2_with fail
 refine hK.out _ _ ⟨(b2.cell (p := ⟨m, 2, none⟩) hS2.2).trans hS2.1, Nat.lt_of_lt_of_le hS2.2 b2.size⟩ (fun hS3 => ?_)
 clear hK K
 try simp only [Go.Law.pz]
 have lx := HX2.out.lt
 have x0 := HX2.out.cell' (i := 0) rfl
 have x1 := HX2.out.cell' (i := 1) rfl
 have x2 := HX2.out.cell' (i := 2) rfl
 have fx0 := HX2.out.frozen 0
 have fx1 := HX2.out.frozen 1
 have fx2 := HX2.out.frozen 2
 have HI3 := Lib.hid (((HX2.out.set 0 (.int .i64 s0) rfl).set 1 (.int .i64 s1) rfl).set 2 (.int .i64 s2) rfl)
 have HB3 := Lib.hid (((HB2.out.setCell (p := ⟨w.heap.size, 0, none⟩) (Nat.le_refl _) (.int .i64 s0)).setCell (p := ⟨w.heap.size, 1, none⟩) (Nat.le_refl _) (.int .i64 s1)).setCell (p := ⟨w.heap.size, 2, none⟩) (Nat.le_refl _) (.int .i64 s2))
 refine wpAnyH_ready (rs := [13]) (by kernel_rfl) (by simp) ?_
 refine AllReadyH.cons (o := ⟨none, .store 57 (.tmp 4) (.tmp 17), _, _, _, _⟩) rfl (fun K hK => ?_) AllReadyH.nil
 go_simp
 refine hK.out _ _ ⟨(HB3.out.cell (p := ⟨m, 2, none⟩) lm).trans cm, Nat.lt_of_lt_of_le lm HB3.out.size⟩ (fun hS4 => ?_)
 clear hK K
 try simp only [Go.Law.pz]
 refine wpAnyH_done (by kernel_rfl) ?_ _
 generalize ((w2.setCell ⟨w.heap.size, 0, none⟩ (.int .i64 s0)).setCell ⟨w.heap.size, 1, none⟩ (.int .i64 s1)).setCell ⟨w.heap.size, 2, none⟩ (.int .i64 s2) = w4 at *
 have n0 := HI3.out.cell' (i := 0) rfl
 have n1 := HI3.out.cell' (i := 1) rfl
 have n2 := HI3.out.cell' (i := 2) rfl
 go_wp2_with fail
 exact bodyPost_ret (v := .agg #[.int .i64 s0, .int .i64 s1, .int .i64 s2]) (by simp [results, Tryz.results16, go_sem, n0, n1, n2]) rfl ⟨rfl, HB3.out⟩
set_option maxRecDepth 100000 in
set_option maxHeartbeats 1000000 in
theorem time (h : Tab w base S m a) :
  Calls Tryz.prog 15 #[.pointer (some ⟨m, 0, none⟩)] w fun e w' => e = .returned (.agg #[.int .u64 a.now, .int .u64 a.seq, .bool a.closed]) ∧ Below w.heap.size w w' := by
 obtain ⟨t, c, arr, p, g, Sk, h⟩ := h
 have c2 : w.cell? ⟨m, 2, none⟩ = some (.int .u64 a.now) := h.box.cell' rfl
 have c3 : w.cell? ⟨m, 3, none⟩ = some (.int .u64 a.seq) := h.box.cell' rfl
 have c4 : w.cell? ⟨m, 4, none⟩ = some (.bool a.closed) := h.box.cell' rfl
 have l1 := h.box.lt
 clear h
 go_enter Tryz.func15, Tryz.ntmps15
 go_wp2_with fail
 exact bodyPost_ret (v := .agg #[.int .u64 a.now, .int .u64 a.seq, .bool a.closed]) (by simp [results, Tryz.results15, go_sem]) rfl ⟨rfl, ((Below.refl _ w).alloc (Nat.le_refl _) _)⟩
set_option maxRecDepth 100000 in
set_option maxHeartbeats 1000000 in
theorem tick (h : TabV w base S m t c arr p g Sk a) (hn : Door.U a.now) (by_ : Int) (hb : Door.U by_) :
  Calls Tryz.prog 25 #[.pointer (some ⟨m, 0, none⟩), .int .u64 by_] w fun e w' => e = .returned (.tuple #[]) ∧ TabV w' base S m t c arr p g Sk (a.tick by_) ∧ Gone w S w' S := by
 have c2 : w.cell? ⟨m, 2, none⟩ = some (.int .u64 a.now) := h.box.cell' rfl
 have c3 : w.cell? ⟨m, 3, none⟩ = some (.int .u64 a.seq) := h.box.cell' rfl
 have c4 : w.cell? ⟨m, 4, none⟩ = some (.bool a.closed) := h.box.cell' rfl
 have l1 := h.box.lt
 have H := Lib.hid h
 clear h
 go_enter Tryz.func25, Tryz.ntmps25
 go_wp2_with fail
 refine (Tick.pass _ _ _ _ hn hb _).mono ?_
 rintro e w1 ⟨rfl, hw⟩
 have hb : Below w.heap.size w w1 := by subst hw; exact ((Below.refl _ w).alloc (Nat.le_refl _) _).alloc (by simp) _
 clear hw
 have H1 := Lib.hid (H.out.below hb)
 have HB := Lib.hid hb
 have b2 : w1.cell? ⟨m, 2, none⟩ = some (.int .u64 a.now) := H1.out.box.cell' rfl
 have b3 : w1.cell? ⟨m, 3, none⟩ = some (.int .u64 a.seq) := H1.out.box.cell' rfl
 have b4 : w1.cell? ⟨m, 4, none⟩ = some (.bool a.closed) := H1.out.box.cell' rfl
 have f2 := H1.out.box.frozen 2
 have f3 := H1.out.box.frozen 3
 have f4 := H1.out.box.frozen 4
 have l2 := H1.out.box.lt
 clear hb c2 c3 c4 l1
 go_wp2_with fail
 have t1 := H1.out.time 2 (.int .u64 (Door.sat a.now by_)) (a' := a.tick by_) rfl rfl rfl rfl rfl
 have t2 := t1.1.time 3 (.int .u64 a.seq) (a' := a.tick by_) rfl rfl rfl rfl rfl
 have t3 := t2.1.time 4 (.bool a.closed) (a' := a.tick by_) rfl rfl rfl rfl rfl
 go_end0
 exact ⟨rfl, t3.1, (Gone.of_below HB.out).trans (t1.2.trans (t2.2.trans t3.2))⟩
def storedUpto (a : Mo) (j : Nat) : Nat := ((List.range j).map fun k => storedB (a.bk k)).sum
theorem storedUpto_next (a : Mo) (j : Nat) : storedUpto a (j + 1) = storedUpto a j + storedB (a.bk j) := by unfold storedUpto; rw [List.range_succ, List.map_append, List.sum_append]; simp
theorem stored_fit {b : Nat} {l : List (ByteArray × En)} (h : Fit b l) : storedB l ≤ b * b := by
 have h1 : ∀ l : List (ByteArray × En), (∀ q ∈ l, q.2.1.length ≤ b) → storedB l ≤ l.length * b := fun l => by
  induction l with
  | nil => intro _; simp [storedB]
  | cons q r ih =>
    intro hq
    have h1 := ih fun x hx => hq x (List.mem_cons_of_mem _ hx)
    have h2 := hq q (List.mem_cons_self ..)
    unfold storedB at *
    simp only [List.map_cons, List.sum_cons, List.length_cons, Nat.add_mul, Nat.one_mul]
    omega
 exact Nat.le_trans (h1 l h.ses) (Nat.mul_le_mul_right b h.len)
theorem storedUpto_le (ho : a.Ok b) : ∀ {j : Nat}, j ≤ a.n → storedUpto a j ≤ j * (b * b)
 | 0, _ => by simp [storedUpto]
 | j + 1, hj => by
   have h1 := storedUpto_le ho (j := j) (by omega)
   have h2 := stored_fit (ho.fit j (by omega))
   rw [storedUpto_next, Nat.add_mul, Nat.one_mul]
   omega
theorem storedUpto_small (ho : a.Ok b) (hb : b ≤ 380) {j : Nat} (hj : j ≤ a.n) : storedUpto a j ≤ 1155200 :=
 Nat.le_trans (storedUpto_le ho hj) (Nat.mul_le_mul (Nat.le_trans hj ho.n8) (Nat.mul_le_mul hb hb))
set_option maxRecDepth 100000 in
set_option maxHeartbeats 1000000 in
theorem stored (h : Tab w base S m a) (ho : a.Ok b) (hb : b ≤ 380) {n : Int} (hn : (a.stored : Int) = n) :
  Calls Tryz.prog 18 #[.pointer (some ⟨m, 0, none⟩)] w fun e w' => e = .returned (.int .i64 n) ∧ Below w.heap.size w w' := by
 obtain ⟨t, c, arr, p, g, Sk, h⟩ := h
 have c5 : w.cell? ⟨m, 5, none⟩ = some (.slice (some ⟨t, 0, none⟩) a.n c) := h.box.cell' rfl
 have l1 := h.box.lt
 have H := Lib.hid h
 have HO := Lib.hid ho
 have HN : Hid ((storedUpto a a.n : Int) = n) := hn
 have hn8 := ho.n8
 clear h ho hn
 go_enter Tryz.func18, Tryz.ntmps18
 go_wp2_with fail
 go_loopw [3, 11] (fun vn vi wr => ∃ j : Nat, j ≤ a.n ∧ vi = .int .i64 j ∧ vn = .int .i64 (storedUpto a j : Int) ∧ Below w.heap.size w wr) (fun _ vi _ => a.n - (intOf vi).toNat)
 case atStart => exact ⟨0, Nat.zero_le _, rfl, rfl, Below.refl _ _⟩
 case round =>
  obtain ⟨j, hj, rfl, rfl, hB⟩ := hrel
  have HB := Lib.hid hB
  have H1 := Lib.hid (H.out.below hB)
  have sz := hB.size
  clear hB
  by_cases hlt : j < a.n
  ·have d1 : decide ((j : Int) < (a.n : Int)) = true := by simp; omega
   have e0 : World.cell? _ ⟨t, j * 2, none⟩ = some (.pointer (p j)) := (H1.out.row.cell _).trans (H1.out.bkc j hlt)
   have e1 : World.cell? _ ⟨t, j * 2 + 1, none⟩ = some (.pointer (some ⟨g j, 0, none⟩)) := (H1.out.row.cell _).trans (H1.out.fdc j hlt)
   have l2 := H1.out.row.lt
   have HNX := Lib.hid (storedUpto_next a j)
   have bb := (Below.refl wr.heap.size wr).alloc (Nat.le_refl _) (.cells #[.pointer (p j), .pointer (some ⟨g j, 0, none⟩)] 74)
   have HK := Lib.hid ((H1.out.book j hlt).now bb)
   have HB2 := Lib.hid (HB.out.trans (bb.mono sz))
   have hfb := storedUpto_small HO.out hb (j := j) (by omega)
   have hfb2 := storedUpto_small HO.out hb (j := j + 1) (by omega)
   rw [HNX.out] at hfb2
   clear bb
   go_wp2_with fail
   refine (Bk.stored HK.out (by have := (HO.out.fit j hlt).len; omega) (fun q hq => by have := (HO.out.fit j hlt).ses q hq; omega)).mono ?_
   rintro e w2 ⟨rfl, b2⟩
   have HB3 := Lib.hid (HB2.out.trans (b2.mono HB2.out.size))
   clear b2
   go_wp2_with fail
   go_roundw
   case rel => exact ⟨j + 1, by omega, by go_num, by rw [HNX.out]; go_num, HB3.out⟩
   case measure => simp [intOf]; omega
  ·obtain rfl : j = a.n := by omega
   have d1 : decide ((a.n : Int) < (a.n : Int)) = false := by simp
   have HN2 := HN.out
   go_wp2_with fail
   go_ret
   exact ⟨by rw [HN2]; rfl, HB.out⟩
set_option maxRecDepth 100000 in
set_option maxHeartbeats 1000000 in
theorem sweep (h : Tab w base S m a) (ho : a.Ok b) (hb : b ≤ 380) (hbw : base ≤ w.heap.size) (s : Int) :
  Calls Tryz.prog 26 #[.pointer (some ⟨m, 0, none⟩), .int .i64 s] w fun e w' => e = .returned (.tuple #[]) ∧ ∃ S', Tab w' base S' m (a.sweep s) ∧ Gone w S w' S' := by
 obtain ⟨t, c, arr, p, g, Sk, h⟩ := h
 have c5 : w.cell? ⟨m, 5, none⟩ = some (.slice (some ⟨t, 0, none⟩) a.n c) := h.box.cell' rfl
 have l1 := h.box.lt
 have hn1 := ho.n1
 have hn8 := ho.n8
 have H := Lib.hid h
 have HO := Lib.hid ho
 by_cases hs : 0 ≤ s ∧ s < (a.n : Int)
 ·obtain ⟨k, rfl⟩ := Int.eq_ofNat_of_zero_le hs.1
  have hk : k < a.n := by omega
  have HE : Hid (a.sweep (k : Int) = a.take.become k (sweepB a.now (a.bk k)) (sweepC a.now (a.bk k)) (Door.sat a.seq 1)) := by show _ = _; unfold Mo.sweep; rw [if_pos hs]; rfl
  have hw1 : (decide ((0 : Int) ≤ (k : Int)) && decide ((k : Int) ≤ (a.n : Int) - 1)) = true := by simp; omega
  rw [HE.out]
  clear h ho hs
  go_enter Tryz.func26, Tryz.ntmps26
  go_wp2_with fail
  refine (within _ _ _ true hw1 _).mono ?_
  rintro e w1 ⟨rfl, rfl⟩
  go_wp2_with fail
  refine (take_ H.out HO.out.seq).mono ?_
  rintro e w2 ⟨rfl, hT, hG⟩
  have HT := Lib.hid hT
  have HG := Lib.hid hG
  have HO2 := HO
  have d2 : w2.cell? ⟨m, 2, none⟩ = some (.int .u64 a.now) := hT.box.cell' rfl
  have d5 : w2.cell? ⟨m, 5, none⟩ = some (.slice (some ⟨t, 0, none⟩) a.n c) := hT.box.cell' rfl
  have l2 := hT.box.lt
  have l3 := hT.row.lt
  have d0 : w2.cell? ⟨t, k * 2, none⟩ = some (.pointer (p k)) := (hT.row.cell _).trans (hT.bkc k hk)
  have HKS : Hid (∀ W, Below w2.heap.size w2 W → (W.cell? ⟨m, 5, none⟩ = some (.slice (some ⟨t, 0, none⟩) a.n c) ∧ W.cell? ⟨t, k * 2, none⟩ = some (.pointer (p k)) ∧ W.cell? ⟨m, 2, none⟩ = some (.int .u64 a.now) ∧ m < W.heap.size ∧ t < W.heap.size)) :=
   fun W K => ⟨(K.cell (p := ⟨m, 5, none⟩) l2).trans d5, (K.cell (p := ⟨t, k * 2, none⟩) l3).trans d0, (K.cell (p := ⟨m, 2, none⟩) l2).trans d2, Nat.lt_of_lt_of_le l2 K.size, Nat.lt_of_lt_of_le l3 K.size⟩
  have HWR : Hid (∀ W, Below w2.heap.size w2 W → Calls Tryz.prog 56 #[.agg #[.pointer (p k)], .int .u64 a.now] W (Bk.Told W (sweepB a.now (a.bk k)) (sweepC a.now (a.bk k)))) :=
   fun W K => Bk.sweep a.now ((HT.out.book k hk).now K) (HO.out.fit k hk).book.1 (by have := (HO.out.fit k hk).len; omega) (fun q hq => by have := (HO.out.fit k hk).ses q hq; omega)
  have hcl : (sweepC a.now (a.bk k)).length ≤ b := Nat.le_trans (List.length_filterMap_le _ _) (HO.out.fit k hk).len
  have hbw2 : base ≤ w2.heap.size := Nat.le_trans hbw hG.touch.size
  clear hT hG
  go_upto_region 2 with (fail)
  go_cut [5, 6] (fun v5 v6 wx => ∃ (gn : Nat) (p5 A5 : Option Addr) (c5 : Nat), v5 = .pointer (some ⟨gn, 0, none⟩) ∧ v6 = .slice A5 (sweepC a.now (a.bk k)).length c5 ∧ w2.heap.size ≤ gn ∧ Is wx gn 72 #[.pointer p5] ∧ Booked wx p5 (sweepB a.now (a.bk k)) ∧ Lain 185 wx A5 (flatC (sweepC a.now (a.bk k))) ∧ Below w2.heap.size w2 wx)
  case first =>
   generalize sweepB a.now (a.bk k) = nb at *
   generalize sweepC a.now (a.bk k) = nc at *
   refine wp_region_held_drew (S := fun W => W.cell? ⟨m, 5, none⟩ = some (.slice (some ⟨t, 0, none⟩) a.n c) ∧ W.cell? ⟨t, k * 2, none⟩ = some (.pointer (p k)) ∧ W.cell? ⟨m, 2, none⟩ = some (.int .u64 a.now) ∧ m < W.heap.size ∧ t < W.heap.size) (by kernel_rfl) (HKS.out _ (Law.below_drewN (Below.refl _ w2) 1)) (fun hS0 => ?_)
   refine Go.Law.tk 0 ⟨some 19, .move (.tmp 0), _, _, _, _⟩ (v := .pointer (some ⟨m, 0, none⟩)) hS0 ?_ ?_
   ·intro w' hSw
    go_simp
   try simp only [Go.Law.pz]
   refine Go.Law.tk 1 ⟨some 20, .nilCheck (.tmp 19), _, _, _, _⟩ (v := .pointer (some ⟨m, 0, none⟩)) hS0 ?_ ?_
   ·intro w' hSw
    go_simp
   try simp only [Go.Law.pz]
   refine Go.Law.tk 2 ⟨some 21, .fieldAddr 67 (.tmp 20) 3, _, _, _, _⟩ (v := .pointer (some ⟨m, 5, none⟩)) hS0 ?_ ?_
   ·intro w' hSw
    go_simp
   try simp only [Go.Law.pz]
   refine Go.Law.tk 3 ⟨some 22, .load 65 (.tmp 21), _, _, _, _⟩ (v := .slice (some ⟨t, 0, none⟩) a.n c) hS0 ?_ ?_
   ·intro w' hSw
    obtain ⟨s0, s1, s2, s3, s4⟩ := hSw
    go_simp
   try simp only [Go.Law.pz]
   refine Go.Law.tk 4 ⟨some 23, .move (.tmp 1), _, _, _, _⟩ (v := .int .i64 (k : Int)) hS0 ?_ ?_
   ·intro w' hSw
    go_simp
   try simp only [Go.Law.pz]
   refine Go.Law.tk 5 ⟨some 24, .indexAddr 65 (.tmp 22) (.tmp 23), _, _, _, _⟩ (v := .pointer (some ⟨t, k * 2, none⟩)) hS0 ?_ ?_
   ·intro w' hSw
    go_simp; (try (intro h8; omega))
   try simp only [Go.Law.pz]
   refine Go.Law.tk 6 ⟨some 25, .fieldAddr 74 (.tmp 24) 0, _, _, _, _⟩ (v := .pointer (some ⟨t, k * 2, none⟩)) hS0 ?_ ?_
   ·intro w' hSw
    go_simp
   try simp only [Go.Law.pz]
   refine Go.Law.tk 7 ⟨some 26, .load 72 (.tmp 25), _, _, _, _⟩ (v := .agg #[.pointer (p k)]) hS0 ?_ ?_
   ·intro w' hSw
    obtain ⟨s0, s1, s2, s3, s4⟩ := hSw
    go_simp
   try simp only [Go.Law.pz]
   refine Go.Law.tk 8 ⟨some 27, .move (.tmp 0), _, _, _, _⟩ (v := .pointer (some ⟨m, 0, none⟩)) hS0 ?_ ?_
   ·intro w' hSw
    go_simp
   try simp only [Go.Law.pz]
   refine Go.Law.tk 9 ⟨some 28, .nilCheck (.tmp 27), _, _, _, _⟩ (v := .pointer (some ⟨m, 0, none⟩)) hS0 ?_ ?_
   ·intro w' hSw
    go_simp
   try simp only [Go.Law.pz]
   refine Go.Law.tk 10 ⟨some 29, .fieldAddr 67 (.tmp 28) 2, _, _, _, _⟩ (v := .pointer (some ⟨m, 2, none⟩)) hS0 ?_ ?_
   ·intro w' hSw
    go_simp
   try simp only [Go.Law.pz]
   refine Go.Law.tk 11 ⟨some 30, .fieldAddr 50 (.tmp 29) 0, _, _, _, _⟩ (v := .pointer (some ⟨m, 2, none⟩)) hS0 ?_ ?_
   ·intro w' hSw
    go_simp
   try simp only [Go.Law.pz]
   refine Go.Law.tk 12 ⟨some 31, .load 22 (.tmp 30), _, _, _, _⟩ (v := .int .u64 a.now) hS0 ?_ ?_
   ·intro w' hSw
    obtain ⟨s0, s1, s2, s3, s4⟩ := hSw
    go_simp
   try simp only [Go.Law.pz]
   refine wpAnyH_ready (rs := [13, 17]) (by kernel_rfl) (by simp) ?_
   refine AllReadyH.cons (o := ⟨some 32, .call { callee := .value (.func 56), args := #[.tmp 26, .tmp 31], argTypes := #[72, 22] }, _, _, _, _⟩) rfl (fun K hK => ?_) ?_
   ·go_simp
    refine Calls.mono (HWR.out _ (Law.below_drewN (Below.refl _ w2) 1)) ?_
    rintro e w5 ⟨p5, A5, c5, rfl, k5, q5, b1⟩
    have b2 : Below w2.heap.size w2 w5 := Below.trans (Law.below_drewN (Below.refl _ w2) 1) (Below.mono b1 (Nat.le_refl _))
    go_wp2_with fail
    refine hK.out _ _ (HKS.out _ b2) (fun hS1 => ?_)
    clear hK K
    try simp only [Go.Law.pz]
    refine Go.Law.tk 14 ⟨some 18, .move (.tmp 32), _, _, _, _⟩ (v := .tuple #[.agg #[.pointer p5], .slice A5 nc.length c5]) hS1 ?_ ?_
    ·intro w' hSw
     go_simp
    try simp only [Go.Law.pz]
    refine Go.Law.tk 15 ⟨some 33, .extract (.tmp 18) 0, _, _, _, _⟩ (v := .agg #[.pointer p5]) hS1 ?_ ?_
    ·intro w' hSw
     go_simp
    try simp only [Go.Law.pz]
    refine Go.Law.tk 16 ⟨some 34, .extract (.tmp 18) 1, _, _, _, _⟩ (v := .slice A5 nc.length c5) hS1 ?_ ?_
    ·intro w' hSw
     go_simp
    try simp only [Go.Law.pz]
    refine wpAnyH_ready (rs := [17]) (by kernel_rfl) (by simp) ?_
    refine AllReadyH.cons (o := ⟨some 5, .alloc 72, _, _, _, _⟩) rfl (fun K hK => ?_) AllReadyH.nil
    go_simp
    have ba := (Below.refl w5.heap.size w5).alloc (Nat.le_refl _) (.cells #[.pointer none] 72)
    have HBn := Lib.hid (b2.trans (ba.mono b2.size))
    have HIn := Lib.hid (Is.new w5 72 #[.pointer none] rfl)
    have HKn := Lib.hid (k5.now ba)
    have HQn := Lib.hid (q5.now ba)
    have nf : w2.heap.size ≤ w5.heap.size := b2.size
    refine hK.out _ _ (HKS.out _ HBn.out) (fun hS2 => ?_)
    clear hK K
    try simp only [Go.Law.pz]
    generalize w5.alloc (.cells #[.pointer none] 72) = w6 at *
    have c80 : w6.cell? ⟨w5.heap.size, 0, none⟩ = some (.pointer none) := HIn.out.cell' rfl
    have f80 := HIn.out.frozen 0
    have l80 := HIn.out.lt
    have HIz := Lib.hid (HIn.out.set 0 (.pointer p5) rfl)
    have HKz := Lib.hid (HKn.out.store (i := 0) HIn.out (by decide) (by decide) (.pointer p5))
    have HQz := Lib.hid (HQn.out.keeps (Keeps.store (i := 0) HIn.out (by decide) (.pointer p5)))
    have HBz := Lib.hid (HBn.out.setCell (p := ⟨w5.heap.size, 0, none⟩) nf (.pointer p5))
    refine wpAnyH_ready (rs := [18]) (by kernel_rfl) (by simp) ?_
    refine AllReadyH.cons (o := ⟨none, .store 72 (.tmp 5) (.tmp 33), _, _, _, _⟩) rfl (fun K hK => ?_) AllReadyH.nil
    go_simp
    refine hK.out _ _ (HKS.out _ HBz.out) (fun hS9 => ?_)
    clear hK K
    try simp only [Go.Law.pz]
    refine Go.Law.tk 19 ⟨some 6, .assign (.tmp 34), _, _, _, _⟩ (v := .slice A5 nc.length c5) hS9 ?_ ?_
    ·intro w' hSw
     go_simp
    try simp only [Go.Law.pz]
    refine wpAnyH_done (by kernel_rfl) ?_ _
    go_wp2_with fail
    go_meet
    exact ⟨w5.heap.size, p5, A5, c5, rfl, rfl, nf, HIz.out, HKz.out, HQz.out, HBz.out⟩
   ·refine AllReadyH.cons (o := ⟨some 5, .alloc 72, _, _, _, _⟩) rfl (fun K hK => ?_) AllReadyH.nil
    go_simp
    have ba : Below w2.heap.size w2 (w2.alloc (.cells #[.pointer none] 72)).drew := Law.below_drewN ((Below.refl w2.heap.size w2).alloc (Nat.le_refl _) (.cells #[.pointer none] 72)) 1
    have HI4 : Hid (Is (w2.alloc (.cells #[.pointer none] 72)).drew w2.heap.size 72 #[.pointer none]) := (Is.new w2 72 #[.pointer none] rfl).drewN 1
    refine hK.out _ _ (HKS.out _ ba) (fun hS2 => ?_)
    clear hK K
    try simp only [Go.Law.pz]
    generalize (w2.alloc (.cells #[.pointer none] 72)).drew = w4 at *
    refine wpAnyH_ready (rs := [13]) (by kernel_rfl) (by simp) ?_
    refine AllReadyH.cons (o := ⟨some 32, .call { callee := .value (.func 56), args := #[.tmp 26, .tmp 31], argTypes := #[72, 22] }, _, _, _, _⟩) rfl (fun K hK => ?_) AllReadyH.nil
    go_simp
    refine Calls.mono (HWR.out _ ba) ?_
    rintro e w5 ⟨p5, A5, c5, rfl, k5, q5, b1⟩
    have HBn := Lib.hid (ba.trans (Below.mono b1 ba.size))
    have HIn := Lib.hid (HI4.out.below b1 HI4.out.lt)
    have HKn := Lib.hid k5
    have HQn := Lib.hid q5
    have nf : w2.heap.size ≤ w2.heap.size := Nat.le_refl _
    go_wp2_with fail
    refine hK.out _ _ (HKS.out _ HBn.out) (fun hS1 => ?_)
    clear hK K
    try simp only [Go.Law.pz]
    refine Go.Law.tk 14 ⟨some 18, .move (.tmp 32), _, _, _, _⟩ (v := .tuple #[.agg #[.pointer p5], .slice A5 nc.length c5]) hS1 ?_ ?_
    ·intro w' hSw
     go_simp
    try simp only [Go.Law.pz]
    refine Go.Law.tk 15 ⟨some 33, .extract (.tmp 18) 0, _, _, _, _⟩ (v := .agg #[.pointer p5]) hS1 ?_ ?_
    ·intro w' hSw
     go_simp
    try simp only [Go.Law.pz]
    refine Go.Law.tk 16 ⟨some 34, .extract (.tmp 18) 1, _, _, _, _⟩ (v := .slice A5 nc.length c5) hS1 ?_ ?_
    ·intro w' hSw
     go_simp
    try simp only [Go.Law.pz]
    have c80 : w5.cell? ⟨w2.heap.size, 0, none⟩ = some (.pointer none) := HIn.out.cell' rfl
    have f80 := HIn.out.frozen 0
    have l80 := HIn.out.lt
    have HIz := Lib.hid (HIn.out.set 0 (.pointer p5) rfl)
    have HKz := Lib.hid (HKn.out.store (i := 0) HIn.out (by decide) (by decide) (.pointer p5))
    have HQz := Lib.hid (HQn.out.keeps (Keeps.store (i := 0) HIn.out (by decide) (.pointer p5)))
    have HBz := Lib.hid (HBn.out.setCell (p := ⟨w2.heap.size, 0, none⟩) nf (.pointer p5))
    refine wpAnyH_ready (rs := [18]) (by kernel_rfl) (by simp) ?_
    refine AllReadyH.cons (o := ⟨none, .store 72 (.tmp 5) (.tmp 33), _, _, _, _⟩) rfl (fun K hK => ?_) AllReadyH.nil
    go_simp
    refine hK.out _ _ (HKS.out _ HBz.out) (fun hS9 => ?_)
    clear hK K
    try simp only [Go.Law.pz]
    refine Go.Law.tk 19 ⟨some 6, .assign (.tmp 34), _, _, _, _⟩ (v := .slice A5 nc.length c5) hS9 ?_ ?_
    ·intro w' hSw
     go_simp
    try simp only [Go.Law.pz]
    refine wpAnyH_done (by kernel_rfl) ?_ _
    go_wp2_with fail
    go_meet
    exact ⟨w2.heap.size, p5, A5, c5, rfl, rfl, nf, HIz.out, HKz.out, HQz.out, HBz.out⟩
  case rest =>
   obtain ⟨gn, p5, A5, c5, rfl, rfl, hgn, hI, hK, hQ, hB⟩ := hcut
   have HT3 := Lib.hid (HT.out.below hB)
   have HG3 := Lib.hid (HG.out.trans (Gone.of_below hB))
   have HK3 := Lib.hid hK
   have HQ3 := Lib.hid hQ
   have z0 := hI.cell' (i := 0) rfl
   have z1 := hI.lt
   have z5 : wc.cell? ⟨m, 5, none⟩ = some (.slice (some ⟨t, 0, none⟩) a.n c) := HT3.out.box.cell' rfl
   have z2 := HT3.out.box.lt
   have hbw3 : base ≤ wc.heap.size := Nat.le_trans hbw2 hB.size
   have bd := Law.below_drewN (Below.refl wc.heap.size wc) 1
   have HT4 : Hid (TabV wc.drew base S m t c arr p g Sk { a with seq := Door.sat a.seq 1 }) := HT3.out.below bd
   have HK4 : Hid (Booked wc.drew p5 (sweepB a.now (a.bk k))) := hK.now bd
   have HQ4 : Hid (Lain 185 wc.drew A5 (flatC (sweepC a.now (a.bk k)))) := hQ.now bd
   have HG4 : Hid (Gone w S wc.drew S) := HG3.out.trans (Gone.of_below bd)
   have hbw4 : base ≤ wc.drew.heap.size := hbw3
   clear hI hK hQ hB HKS HWR d0 d2 d5 l2 l3 HT3 HK3 HQ3 HG3 bd
   go_upto_region 3 with (fail)
   go_still_tail 9, (by kernel_rfl)
   change wpList _ _ _ _ _ wc.drew
   generalize wc.drew = w9 at *
   go_wp2_with fail
   refine (become_ (k := k) HT4.out hbw4 hk HK4.out HQ4.out _ (fun i hi => by have := HO.out.que k hk i hi; show ((a.fd k).que i).length + _ ≤ _; omega)).mono ?_
   rintro e w4 ⟨rfl, S', arr', p', Sk', h4, g4⟩
   have H4 := Lib.hid h4
   have G4 := Lib.hid (HG4.out.trans g4)
   clear h4 g4
   go_wp2_with fail
   go_end0
   exact ⟨rfl, S', ⟨_, _, _, _, _, _, H4.out⟩, G4.out⟩
 ·have HE : Hid (a.sweep s = a) := by show _ = _; unfold Mo.sweep; rw [if_neg hs]
  have hw1 : (decide ((0 : Int) ≤ s) && decide (s ≤ (a.n : Int) - 1)) = false := by simp; omega
  rw [HE.out]
  clear h ho hs
  go_enter Tryz.func26, Tryz.ntmps26
  go_wp2_with fail
  refine (within _ _ _ false hw1 _).mono ?_
  rintro e w1 ⟨rfl, rfl⟩
  go_wp2_with fail
  refine bodyPost_ret (results_none rfl _ _ _) rfl ?_
  exact ⟨rfl, S, ⟨_, _, _, _, _, _, H.out⟩, Gone.refl _ _⟩
end
end Mod
end Go.Proofs.YtohdlnefgieenaaGreat
namespace Go.Proofs.YtohdlnefgieenaaGreat
open Go.RowKit Go.Shelf
attribute [local go_sem] Oper.semAt_some
namespace Mod
open Go.Law Feed Bk
def Did (w : World) (base : Nat) (S : Nat → Prop) (m : Nat) (a' : Mo) (er : Int) (e : Ending) (w' : World) : Prop := e = .returned (.int .i64 er) ∧ ∃ S', Tab w' base S' m a' ∧ Gone w S w' S'
section
variable {w w' : World} {base m t c b : Nat} {S S' : Nat → Prop} {arr : Array Value} {p : Nat → Option Addr} {g : Nat → Nat} {Sk : Nat → Nat → Prop} {a : Mo}
set_option maxRecDepth 100000 in
set_option maxHeartbeats 2000000 in
theorem write (h : Tab w base S m a) (ho : a.Ok b) (hb : b ≤ 380) (hbw : base ≤ w.heap.size) (q : OpV) (hu : q.user.size ≤ maxLen) (ht : Door.U q.ttl) (hq : ∃ A n c, q.users = .slice A n c) :
  Calls Tryz.prog 46 #[.pointer (some ⟨m, 0, none⟩), q.val] w (Did w base S m (a.write q).1 (a.write q).2) := by
 obtain ⟨kind, user, id, st, pr, ttl, us⟩ := q
 obtain ⟨Au, nu, cu, rfl⟩ := hq
 simp only at hu ht
 obtain ⟨a', ha'⟩ : ∃ a', (a.write ⟨kind, user, id, st, pr, ttl, .slice Au nu cu⟩).1 = a' := ⟨_, rfl⟩
 obtain ⟨er, her⟩ : ∃ er, (a.write ⟨kind, user, id, st, pr, ttl, .slice Au nu cu⟩).2 = er := ⟨_, rfl⟩
 rw [ha', her]
 have HA := Lib.hid ha'
 have HR := Lib.hid her
 clear ha' her
 obtain ⟨t, c, arr, p, g, Sk, h⟩ := h
 have hn1 := ho.n1
 have hn8 := ho.n8
 have HO := Lib.hid ho
 obtain ⟨k, hk⟩ : ∃ k, str user a.n = k := ⟨_, rfl⟩
 have hlt : k < a.n := hk ▸ str_lt user hn1
 have HK := Lib.hid hk
 have bx := (Below.refl w.heap.size w).alloc (Nat.le_refl _) (.cells #[.int .i64 kind, .string user, .int .i64 id, .int .i64 st, .int .i64 pr, .int .u64 ttl, .slice Au nu cu] 37)
 have HIX := Lib.hid (Is.new w 37 #[.int .i64 kind, .string user, .int .i64 id, .int .i64 st, .int .i64 pr, .int .u64 ttl, .slice Au nu cu] rfl)
 have H := Lib.hid (h.below bx)
 have HG : Hid (Gone w S _ S) := Gone.of_below bx
 have hbw1 : base ≤ (w.alloc (.cells #[.int .i64 kind, .string user, .int .i64 id, .int .i64 st, .int .i64 pr, .int .u64 ttl, .slice Au nu cu] 37)).heap.size := by simp; omega
 have NX : Hid (¬ S w.heap.size) := fun hx => by have := (h.ok _ hx).2; omega
 clear h ho hk bx
 go_enter Tryz.func46, Tryz.ntmps46
 go_wp2_with fail
 generalize w.alloc (.cells #[.int .i64 kind, .string user, .int .i64 id, .int .i64 st, .int .i64 pr, .int .u64 ttl, .slice Au nu cu] 37) = w1 at *
 generalize w.heap.size = bxn at *
 refine (take_ H.out HO.out.seq).mono ?_
 rintro e w2 ⟨rfl, hT, hG⟩
 have HT := Lib.hid hT
 have HG2 := Lib.hid (HG.out.trans hG)
 have HI2 := Lib.hid (hG.is HIX.out NX.out)
 have hbw2 : base ≤ w2.heap.size := Nat.le_trans hbw1 hG.touch.size
 have d4 : w2.cell? ⟨m, 4, none⟩ = some (.bool a.closed) := hT.box.cell' rfl
 have l2 := hT.box.lt
 clear hT hG H HG HIX
 obtain ⟨cl, hcl⟩ : ∃ cl, a.closed = cl := ⟨_, rfl⟩
 rw [hcl] at d4
 cases cl with
 | true =>
   have HE : Hid (a.write ⟨kind, user, id, st, pr, ttl, .slice Au nu cu⟩ = (a.take, 5)) := by show _ = _; unfold Mo.write; rw [if_pos hcl]
   obtain rfl : a.take = a' := by rw [← HA.out, HE.out]
   obtain rfl : (5 : Int) = er := by rw [← HR.out, HE.out]
   go_wp2_with fail
   go_ret
   exact ⟨rfl, S, ⟨_, _, _, _, _, _, HT.out⟩, HG2.out⟩
 | false =>
   have HE : Hid (a.write ⟨kind, user, id, st, pr, ttl, .slice Au nu cu⟩ = (a.take.become k (wrB ⟨kind, user, id, st, pr, ttl, .slice Au nu cu⟩ a.now a.most (a.bk k)) (wrC ⟨kind, user, id, st, pr, ttl, .slice Au nu cu⟩ a.now a.most (a.bk k)) (Door.sat a.seq 1), wrE ⟨kind, user, id, st, pr, ttl, .slice Au nu cu⟩ a.now a.most (a.bk k))) := by show _ = _; unfold Mo.write; rw [if_neg (by rw [hcl]; decide), show str _ _ = k from HK.out]
   rw [HE.out] at HA HR
   have x1 : w2.cell? ⟨bxn, 1, none⟩ = some (.string user) := HI2.out.cell' rfl
   have lx := HI2.out.lt
   go_wp2_with fail
   refine (of_ HT.out user hu hn1 hn8 HK.out).mono ?_
   rintro e w3 ⟨rfl, b3⟩
   have HT3 := Lib.hid (HT.out.below b3)
   have HG3 := Lib.hid (HG2.out.trans (Gone.of_below b3))
   have HI3 := Lib.hid (HI2.out.below b3 HI2.out.lt)
   have hbw3 : base ≤ w3.heap.size := Nat.le_trans hbw2 b3.size
   clear b3 HT HG2 HI2 d4 l2 x1 lx
   have lt3 := HT3.out.row.lt
   have lm3 := HT3.out.box.lt
   have lb3 := HI3.out.lt
   have HKS : Hid (∀ w', Below w3.heap.size w3 w' → (w'.cell? ⟨t, k * 2, none⟩ = some (.pointer (p k)) ∧ w'.cell? ⟨bxn, 0, none⟩ = some (.int .i64 kind) ∧ w'.cell? ⟨bxn, 1, none⟩ = some (.string user) ∧ w'.cell? ⟨bxn, 2, none⟩ = some (.int .i64 id) ∧ w'.cell? ⟨bxn, 3, none⟩ = some (.int .i64 st) ∧ w'.cell? ⟨bxn, 4, none⟩ = some (.int .i64 pr) ∧ w'.cell? ⟨bxn, 5, none⟩ = some (.int .u64 ttl) ∧ w'.cell? ⟨bxn, 6, none⟩ = some (.slice Au nu cu) ∧ w'.cell? ⟨m, 2, none⟩ = some (.int .u64 a.now) ∧ w'.cell? ⟨m, 0, none⟩ = some (.int .i64 a.most) ∧ t < w'.heap.size ∧ bxn < w'.heap.size ∧ m < w'.heap.size)) := fun w' K =>
    ⟨(K.cell (p := ⟨t, k * 2, none⟩) lt3).trans ((HT3.out.row.cell _).trans (HT3.out.bkc k hlt)), (K.cell (p := ⟨bxn, 0, none⟩) lb3).trans (HI3.out.cell' rfl), (K.cell (p := ⟨bxn, 1, none⟩) lb3).trans (HI3.out.cell' rfl), (K.cell (p := ⟨bxn, 2, none⟩) lb3).trans (HI3.out.cell' rfl), (K.cell (p := ⟨bxn, 3, none⟩) lb3).trans (HI3.out.cell' rfl), (K.cell (p := ⟨bxn, 4, none⟩) lb3).trans (HI3.out.cell' rfl), (K.cell (p := ⟨bxn, 5, none⟩) lb3).trans (HI3.out.cell' rfl), (K.cell (p := ⟨bxn, 6, none⟩) lb3).trans (HI3.out.cell' rfl), (K.cell (p := ⟨m, 2, none⟩) lm3).trans (HT3.out.box.cell' rfl), (K.cell (p := ⟨m, 0, none⟩) lm3).trans (HT3.out.box.cell' rfl), Nat.lt_of_lt_of_le lt3 K.size, Nat.lt_of_lt_of_le lb3 K.size, Nat.lt_of_lt_of_le lm3 K.size⟩
   have HWR : Hid (∀ W, Below w3.heap.size w3 W → Calls Tryz.prog 73 #[.agg #[.pointer (p k)], .agg #[.int .i64 kind, .string user, .int .i64 id, .int .i64 st, .int .i64 pr, .int .u64 ttl, .slice Au nu cu], .int .u64 a.now, .int .i64 a.most] W (Wrote W (wrB ⟨kind, user, id, st, pr, ttl, .slice Au nu cu⟩ a.now a.most (a.bk k)) (wrC ⟨kind, user, id, st, pr, ttl, .slice Au nu cu⟩ a.now a.most (a.bk k)) (wrE ⟨kind, user, id, st, pr, ttl, .slice Au nu cu⟩ a.now a.most (a.bk k)))) :=
    fun W K => Bk.write ⟨kind, user, id, st, pr, ttl, .slice Au nu cu⟩ a.now a.most HO.out.now ht ((HT3.out.book k hlt).now K) (HO.out.fit k hlt).book (by have := (HO.out.fit k hlt).of user; simp only; omega) (by have := (HO.out.fit k hlt).len; omega)
   have hcl2 : (wrC ⟨kind, user, id, st, pr, ttl, .slice Au nu cu⟩ a.now a.most (a.bk k)).length ≤ 1 := tells_le _ _ _ _
   clear HE
   generalize wrB ⟨kind, user, id, st, pr, ttl, .slice Au nu cu⟩ a.now a.most (a.bk k) = nb at *
   generalize wrC ⟨kind, user, id, st, pr, ttl, .slice Au nu cu⟩ a.now a.most (a.bk k) = nc at *
   generalize wrE ⟨kind, user, id, st, pr, ttl, .slice Au nu cu⟩ a.now a.most (a.bk k) = ne at *
   go_upto_region 5 with (fail)
   go_cut [7, 8, 9] (fun v7 v8 v9 wx => ∃ (gn : Nat) (p5 A5 : Option Addr) (c5 : Nat), v7 = .pointer (some ⟨gn, 0, none⟩) ∧ v8 = .slice A5 nc.length c5 ∧ v9 = .int .i64 ne ∧ w3.heap.size ≤ gn ∧ Is wx gn 72 #[.pointer p5] ∧ Booked wx p5 nb ∧ Lain 185 wx A5 (flatC nc) ∧ Below w3.heap.size w3 wx)
   case first =>
    refine wp_region_held_drew (S := fun w' => w'.cell? ⟨t, k * 2, none⟩ = some (.pointer (p k)) ∧ w'.cell? ⟨bxn, 0, none⟩ = some (.int .i64 kind) ∧ w'.cell? ⟨bxn, 1, none⟩ = some (.string user) ∧ w'.cell? ⟨bxn, 2, none⟩ = some (.int .i64 id) ∧ w'.cell? ⟨bxn, 3, none⟩ = some (.int .i64 st) ∧ w'.cell? ⟨bxn, 4, none⟩ = some (.int .i64 pr) ∧ w'.cell? ⟨bxn, 5, none⟩ = some (.int .u64 ttl) ∧ w'.cell? ⟨bxn, 6, none⟩ = some (.slice Au nu cu) ∧ w'.cell? ⟨m, 2, none⟩ = some (.int .u64 a.now) ∧ w'.cell? ⟨m, 0, none⟩ = some (.int .i64 a.most) ∧ t < w'.heap.size ∧ bxn < w'.heap.size ∧ m < w'.heap.size) (by kernel_rfl) (HKS.out _ (Law.below_drewN (Below.refl _ w3) 1)) (fun hS0 => ?_)
    refine Go.Law.tk 0 ⟨some 22, .move (.tmp 6), _, _, _, _⟩ (v := .pointer (some ⟨t, k * 2, none⟩)) hS0 ?_ ?_
    ·intro w' hSw
     go_simp
    try simp only [Go.Law.pz]
    refine Go.Law.tk 1 ⟨some 23, .nilCheck (.tmp 22), _, _, _, _⟩ (v := .pointer (some ⟨t, k * 2, none⟩)) hS0 ?_ ?_
    ·intro w' hSw
     go_simp
    try simp only [Go.Law.pz]
    refine Go.Law.tk 2 ⟨some 24, .fieldAddr 74 (.tmp 23) 0, _, _, _, _⟩ (v := .pointer (some ⟨t, k * 2, none⟩)) hS0 ?_ ?_
    ·intro w' hSw
     go_simp
    try simp only [Go.Law.pz]
    refine Go.Law.tk 3 ⟨some 25, .load 72 (.tmp 24), _, _, _, _⟩ (v := .agg #[.pointer (p k)]) hS0 ?_ ?_
    ·intro w' hSw
     obtain ⟨s0, s1, s2, s3, s4, s5, s6, s7, s8, s9, s10, s11, s12⟩ := hSw
     go_simp
    try simp only [Go.Law.pz]
    refine Go.Law.tk 4 ⟨some 26, .load 37 (.tmp 3), _, _, _, _⟩ (v := .agg #[.int .i64 kind, .string user, .int .i64 id, .int .i64 st, .int .i64 pr, .int .u64 ttl, .slice Au nu cu]) hS0 ?_ ?_
    ·intro w' hSw
     obtain ⟨s0, s1, s2, s3, s4, s5, s6, s7, s8, s9, s10, s11, s12⟩ := hSw
     go_simp
    try simp only [Go.Law.pz]
    refine Go.Law.tk 5 ⟨some 27, .move (.tmp 0), _, _, _, _⟩ (v := .pointer (some ⟨m, 0, none⟩)) hS0 ?_ ?_
    ·intro w' hSw
     go_simp
    try simp only [Go.Law.pz]
    refine Go.Law.tk 6 ⟨some 28, .nilCheck (.tmp 27), _, _, _, _⟩ (v := .pointer (some ⟨m, 0, none⟩)) hS0 ?_ ?_
    ·intro w' hSw
     go_simp
    try simp only [Go.Law.pz]
    refine Go.Law.tk 7 ⟨some 29, .fieldAddr 67 (.tmp 28) 2, _, _, _, _⟩ (v := .pointer (some ⟨m, 2, none⟩)) hS0 ?_ ?_
    ·intro w' hSw
     go_simp
    try simp only [Go.Law.pz]
    refine Go.Law.tk 8 ⟨some 30, .fieldAddr 50 (.tmp 29) 0, _, _, _, _⟩ (v := .pointer (some ⟨m, 2, none⟩)) hS0 ?_ ?_
    ·intro w' hSw
     go_simp
    try simp only [Go.Law.pz]
    refine Go.Law.tk 9 ⟨some 31, .load 22 (.tmp 30), _, _, _, _⟩ (v := .int .u64 a.now) hS0 ?_ ?_
    ·intro w' hSw
     obtain ⟨s0, s1, s2, s3, s4, s5, s6, s7, s8, s9, s10, s11, s12⟩ := hSw
     go_simp
    try simp only [Go.Law.pz]
    refine Go.Law.tk 10 ⟨some 32, .move (.tmp 0), _, _, _, _⟩ (v := .pointer (some ⟨m, 0, none⟩)) hS0 ?_ ?_
    ·intro w' hSw
     go_simp
    try simp only [Go.Law.pz]
    refine Go.Law.tk 11 ⟨some 33, .nilCheck (.tmp 32), _, _, _, _⟩ (v := .pointer (some ⟨m, 0, none⟩)) hS0 ?_ ?_
    ·intro w' hSw
     go_simp
    try simp only [Go.Law.pz]
    refine Go.Law.tk 12 ⟨some 34, .fieldAddr 67 (.tmp 33) 0, _, _, _, _⟩ (v := .pointer (some ⟨m, 0, none⟩)) hS0 ?_ ?_
    ·intro w' hSw
     go_simp
    try simp only [Go.Law.pz]
    refine Go.Law.tk 13 ⟨some 35, .load 3 (.tmp 34), _, _, _, _⟩ (v := .int .i64 a.most) hS0 ?_ ?_
    ·intro w' hSw
     obtain ⟨s0, s1, s2, s3, s4, s5, s6, s7, s8, s9, s10, s11, s12⟩ := hSw
     go_simp
    try simp only [Go.Law.pz]
    refine wpAnyH_ready (rs := [14, 19]) (by kernel_rfl) (by simp) ?_
    refine AllReadyH.cons (o := ⟨some 36, .call { callee := .value (.func 73), args := #[.tmp 25, .tmp 26, .tmp 31, .tmp 35], argTypes := #[72, 37, 22, 3] }, _, _, _, _⟩) rfl (fun K hK => ?_) ?_
    ·go_simp
     refine Calls.mono (HWR.out _ (Law.below_drewN (Below.refl _ w3) 1)) ?_
     rintro e w5 ⟨p5, A5, c5, rfl, k5, q5, b1⟩
     have b2 : Below w3.heap.size w3 w5 := Below.trans (Law.below_drewN (Below.refl _ w3) 1) (Below.mono b1 (Nat.le_refl _))
     go_wp2_with fail
     refine hK.out _ _ (HKS.out _ b2) (fun hS1 => ?_)
     clear hK K
     try simp only [Go.Law.pz]
     refine Go.Law.tk 15 ⟨some 21, .move (.tmp 36), _, _, _, _⟩ (v := .tuple #[.agg #[.pointer p5], .slice A5 nc.length c5, .int .i64 ne]) hS1 ?_ ?_
     ·intro w' hSw
      go_simp
     try simp only [Go.Law.pz]
     refine Go.Law.tk 16 ⟨some 37, .extract (.tmp 21) 0, _, _, _, _⟩ (v := .agg #[.pointer p5]) hS1 ?_ ?_
     ·intro w' hSw
      go_simp
     try simp only [Go.Law.pz]
     refine Go.Law.tk 17 ⟨some 38, .extract (.tmp 21) 1, _, _, _, _⟩ (v := .slice A5 nc.length c5) hS1 ?_ ?_
     ·intro w' hSw
      go_simp
     try simp only [Go.Law.pz]
     refine Go.Law.tk 18 ⟨some 39, .extract (.tmp 21) 2, _, _, _, _⟩ (v := .int .i64 ne) hS1 ?_ ?_
     ·intro w' hSw
      go_simp
     try simp only [Go.Law.pz]
     refine wpAnyH_ready (rs := [19]) (by kernel_rfl) (by simp) ?_
     refine AllReadyH.cons (o := ⟨some 7, .alloc 72, _, _, _, _⟩) rfl (fun K hK => ?_) AllReadyH.nil
     go_simp
     have ba := (Below.refl w5.heap.size w5).alloc (Nat.le_refl _) (.cells #[.pointer none] 72)
     have HBn := Lib.hid (b2.trans (ba.mono b2.size))
     have HIn := Lib.hid (Is.new w5 72 #[.pointer none] rfl)
     have HKn := Lib.hid (k5.now ba)
     have HQn := Lib.hid (q5.now ba)
     have nf : w3.heap.size ≤ w5.heap.size := b2.size
     refine hK.out _ _ (HKS.out _ HBn.out) (fun hS2 => ?_)
     clear hK K
     try simp only [Go.Law.pz]
     generalize w5.alloc (.cells #[.pointer none] 72) = w6 at *
     have c80 : w6.cell? ⟨w5.heap.size, 0, none⟩ = some (.pointer none) := HIn.out.cell' rfl
     have f80 := HIn.out.frozen 0
     have l80 := HIn.out.lt
     have HIz := Lib.hid (HIn.out.set 0 (.pointer p5) rfl)
     have HKz := Lib.hid (HKn.out.store (i := 0) HIn.out (by decide) (by decide) (.pointer p5))
     have HQz := Lib.hid (HQn.out.keeps (Keeps.store (i := 0) HIn.out (by decide) (.pointer p5)))
     have HBz := Lib.hid (HBn.out.setCell (p := ⟨w5.heap.size, 0, none⟩) nf (.pointer p5))
     refine wpAnyH_ready (rs := [20]) (by kernel_rfl) (by simp) ?_
     refine AllReadyH.cons (o := ⟨none, .store 72 (.tmp 7) (.tmp 37), _, _, _, _⟩) rfl (fun K hK => ?_) AllReadyH.nil
     go_simp
     refine hK.out _ _ (HKS.out _ HBz.out) (fun hS9 => ?_)
     clear hK K
     try simp only [Go.Law.pz]
     refine Go.Law.tk 21 ⟨some 8, .assign (.tmp 38), _, _, _, _⟩ (v := .slice A5 nc.length c5) hS9 ?_ ?_
     ·intro w' hSw
      go_simp
     try simp only [Go.Law.pz]
     refine Go.Law.tk 22 ⟨some 9, .assign (.tmp 39), _, _, _, _⟩ (v := .int .i64 ne) hS9 ?_ ?_
     ·intro w' hSw
      go_simp
     try simp only [Go.Law.pz]
     refine wpAnyH_done (by kernel_rfl) ?_ _
     go_wp2_with fail
     go_meet
     exact ⟨w5.heap.size, p5, A5, c5, rfl, rfl, rfl, nf, HIz.out, HKz.out, HQz.out, HBz.out⟩
    ·refine AllReadyH.cons (o := ⟨some 7, .alloc 72, _, _, _, _⟩) rfl (fun K hK => ?_) AllReadyH.nil
     go_simp
     have ba : Below w3.heap.size w3 (w3.alloc (.cells #[.pointer none] 72)).drew := Law.below_drewN ((Below.refl w3.heap.size w3).alloc (Nat.le_refl _) (.cells #[.pointer none] 72)) 1
     have HI4 : Hid (Is (w3.alloc (.cells #[.pointer none] 72)).drew w3.heap.size 72 #[.pointer none]) := (Is.new w3 72 #[.pointer none] rfl).drewN 1
     refine hK.out _ _ (HKS.out _ ba) (fun hS2 => ?_)
     clear hK K
     try simp only [Go.Law.pz]
     generalize (w3.alloc (.cells #[.pointer none] 72)).drew = w4 at *
     refine wpAnyH_ready (rs := [14]) (by kernel_rfl) (by simp) ?_
     refine AllReadyH.cons (o := ⟨some 36, .call { callee := .value (.func 73), args := #[.tmp 25, .tmp 26, .tmp 31, .tmp 35], argTypes := #[72, 37, 22, 3] }, _, _, _, _⟩) rfl (fun K hK => ?_) AllReadyH.nil
     go_simp
     refine Calls.mono (HWR.out _ ba) ?_
     rintro e w5 ⟨p5, A5, c5, rfl, k5, q5, b1⟩
     have HBn := Lib.hid (ba.trans (Below.mono b1 ba.size))
     have HIn := Lib.hid (HI4.out.below b1 HI4.out.lt)
     have HKn := Lib.hid k5
     have HQn := Lib.hid q5
     have nf : w3.heap.size ≤ w3.heap.size := Nat.le_refl _
     go_wp2_with fail
     refine hK.out _ _ (HKS.out _ HBn.out) (fun hS1 => ?_)
     clear hK K
     try simp only [Go.Law.pz]
     refine Go.Law.tk 15 ⟨some 21, .move (.tmp 36), _, _, _, _⟩ (v := .tuple #[.agg #[.pointer p5], .slice A5 nc.length c5, .int .i64 ne]) hS1 ?_ ?_
     ·intro w' hSw
      go_simp
     try simp only [Go.Law.pz]
     refine Go.Law.tk 16 ⟨some 37, .extract (.tmp 21) 0, _, _, _, _⟩ (v := .agg #[.pointer p5]) hS1 ?_ ?_
     ·intro w' hSw
      go_simp
     try simp only [Go.Law.pz]
     refine Go.Law.tk 17 ⟨some 38, .extract (.tmp 21) 1, _, _, _, _⟩ (v := .slice A5 nc.length c5) hS1 ?_ ?_
     ·intro w' hSw
      go_simp
     try simp only [Go.Law.pz]
     refine Go.Law.tk 18 ⟨some 39, .extract (.tmp 21) 2, _, _, _, _⟩ (v := .int .i64 ne) hS1 ?_ ?_
     ·intro w' hSw
      go_simp
     try simp only [Go.Law.pz]
     have c80 : w5.cell? ⟨w3.heap.size, 0, none⟩ = some (.pointer none) := HIn.out.cell' rfl
     have f80 := HIn.out.frozen 0
     have l80 := HIn.out.lt
     have HIz := Lib.hid (HIn.out.set 0 (.pointer p5) rfl)
     have HKz := Lib.hid (HKn.out.store (i := 0) HIn.out (by decide) (by decide) (.pointer p5))
     have HQz := Lib.hid (HQn.out.keeps (Keeps.store (i := 0) HIn.out (by decide) (.pointer p5)))
     have HBz := Lib.hid (HBn.out.setCell (p := ⟨w3.heap.size, 0, none⟩) nf (.pointer p5))
     refine wpAnyH_ready (rs := [20]) (by kernel_rfl) (by simp) ?_
     refine AllReadyH.cons (o := ⟨none, .store 72 (.tmp 7) (.tmp 37), _, _, _, _⟩) rfl (fun K hK => ?_) AllReadyH.nil
     go_simp
     refine hK.out _ _ (HKS.out _ HBz.out) (fun hS9 => ?_)
     clear hK K
     try simp only [Go.Law.pz]
     refine Go.Law.tk 21 ⟨some 8, .assign (.tmp 38), _, _, _, _⟩ (v := .slice A5 nc.length c5) hS9 ?_ ?_
     ·intro w' hSw
      go_simp
     try simp only [Go.Law.pz]
     refine Go.Law.tk 22 ⟨some 9, .assign (.tmp 39), _, _, _, _⟩ (v := .int .i64 ne) hS9 ?_ ?_
     ·intro w' hSw
      go_simp
     try simp only [Go.Law.pz]
     refine wpAnyH_done (by kernel_rfl) ?_ _
     go_wp2_with fail
     go_meet
     exact ⟨w3.heap.size, p5, A5, c5, rfl, rfl, rfl, nf, HIz.out, HKz.out, HQz.out, HBz.out⟩
   case rest =>
    obtain ⟨gn, p5, A5, c5, rfl, rfl, rfl, hgn, hI, hK, hQ, hB⟩ := hcut
    have bd := Below.refl wc.heap.size wc
    have HT4 : Hid (TabV wc base S m t c arr p g Sk { a with seq := Door.sat a.seq 1 }) := (HT3.out.below hB).below bd
    have HG4 : Hid (Gone w S wc S) := HG3.out.trans ((Gone.of_below hB).trans (Gone.of_below bd))
    have HK4 : Hid (Booked wc p5 nb) := hK.now bd
    have HQ4 : Hid (Lain 185 wc A5 (flatC nc)) := hQ.now bd
    have z0 := hI.cell' (i := 0) rfl
    have z1 := hI.lt
    have hbw4 : base ≤ wc.heap.size := Nat.le_trans hbw3 hB.size
    clear hI hK hQ hB bd HT3 HG3 HI3 HKS HWR
    obtain rfl : a.take.become k nb nc (Door.sat a.seq 1) = a' := HA.out
    obtain rfl : ne = er := HR.out
    go_wp2_with fail
    refine (become_ (k := k) HT4.out hbw4 hlt HK4.out HQ4.out _ (fun i hi => by have := HO.out.que k hlt i hi; show ((a.fd k).que i).length + _ ≤ _; omega)).mono ?_
    rintro e w4 ⟨rfl, S', arr', p', Sk', h4, g4⟩
    have H4 := Lib.hid h4
    have G4 := Lib.hid (HG4.out.trans g4)
    clear h4 g4
    go_wp2_with fail
    go_ret
    exact ⟨rfl, S', ⟨_, _, _, _, _, _, H4.out⟩, G4.out⟩
end
end Mod
end Go.Proofs.YtohdlnefgieenaaGreat
namespace Go.Proofs.YtohdlnefgieenaaGreat
open Go.RowKit Go.Shelf
attribute [local go_sem] Oper.semAt_some
namespace Mod
open Go.Law Feed Bk
section
variable {w w' : World} {base m t c b : Nat} {S S' : Nat → Prop} {arr : Array Value} {p : Nat → Option Addr} {g : Nat → Nat} {Sk : Nat → Nat → Prop} {a : Mo}
def watchedUpto (a : Mo) (who j : Nat) : Nat := ((List.range j).map fun k => ((a.fd k).wat who).length).sum
theorem watchedUpto_next (a : Mo) (who j : Nat) : watchedUpto a who (j + 1) = watchedUpto a who j + ((a.fd j).wat who).length := by unfold watchedUpto; rw [List.range_succ, List.map_append, List.sum_append]; simp
theorem watchedUpto_le (ho : a.Ok b) {who : Nat} (hw : who < 8) : ∀ {j : Nat}, j ≤ a.n → watchedUpto a who j ≤ j * b
 | 0, _ => by simp [watchedUpto]
 | j + 1, hj => by
   have h1 := watchedUpto_le ho hw (j := j) (by omega)
   have h2 := ho.wat j (by omega) who hw
   rw [watchedUpto_next, Nat.add_mul, Nat.one_mul]
   omega
theorem watchedUpto_small (ho : a.Ok b) (hb : b ≤ 380) {who : Nat} (hw : who < 8) {j : Nat} (hj : j ≤ a.n) : watchedUpto a who j ≤ 3040 :=
 Nat.le_trans (watchedUpto_le ho hw hj) (Nat.mul_le_mul (Nat.le_trans hj ho.n8) hb)
set_option maxRecDepth 100000 in
set_option maxHeartbeats 1000000 in
theorem watched (h : Tab w base S m a) (ho : a.Ok b) (hb : b ≤ 380) {who : Nat} (hw : who < 8) {n : Int} (hn : (a.watched who : Int) = n) :
  Calls Tryz.prog 78 #[.pointer (some ⟨m, 0, none⟩), .int .i64 (who : Int)] w fun e w' => e = .returned (.int .i64 n) ∧ Below w.heap.size w w' := by
 obtain ⟨t, c, arr, p, g, Sk, h⟩ := h
 have c5 : w.cell? ⟨m, 5, none⟩ = some (.slice (some ⟨t, 0, none⟩) a.n c) := h.box.cell' rfl
 have l1 := h.box.lt
 have H := Lib.hid h
 have HO := Lib.hid ho
 have HN : Hid ((watchedUpto a who a.n : Int) = n) := hn
 have hn8 := ho.n8
 clear h ho hn
 go_enter Tryz.func78, Tryz.ntmps78
 go_wp2_with fail
 go_loopw [5, 13] (fun vn vi wr => ∃ j : Nat, j ≤ a.n ∧ vi = .int .i64 j ∧ vn = .int .i64 (watchedUpto a who j : Int) ∧ Below w.heap.size w wr) (fun _ vi _ => a.n - (intOf vi).toNat)
 case atStart => exact ⟨0, Nat.zero_le _, rfl, rfl, Below.refl _ _⟩
 case round =>
  obtain ⟨j, hj, rfl, rfl, hB⟩ := hrel
  have HB := Lib.hid hB
  have H1 := Lib.hid (H.out.below hB)
  have sz := hB.size
  clear hB
  by_cases hlt : j < a.n
  ·have d1 : decide ((j : Int) < (a.n : Int)) = true := by simp; omega
   have e0 : World.cell? _ ⟨t, j * 2, none⟩ = some (.pointer (p j)) := (H1.out.row.cell _).trans (H1.out.bkc j hlt)
   have e1 : World.cell? _ ⟨t, j * 2 + 1, none⟩ = some (.pointer (some ⟨g j, 0, none⟩)) := (H1.out.row.cell _).trans (H1.out.fdc j hlt)
   have l2 := H1.out.row.lt
   have HNX := Lib.hid (watchedUpto_next a who j)
   have bb := (Below.refl wr.heap.size wr).alloc (Nat.le_refl _) (.cells #[.pointer (p j), .pointer (some ⟨g j, 0, none⟩)] 74)
   have HK := Lib.hid ((H1.out.feed j hlt).below bb)
   have HB2 := Lib.hid (HB.out.trans (bb.mono sz))
   have hfb := watchedUpto_small HO.out hb hw (j := j) (by omega)
   have hfb2 := watchedUpto_small HO.out hb hw (j := j + 1) (by omega)
   rw [HNX.out] at hfb2
   clear bb
   go_wp2_with fail
   refine (countE HK.out rfl hw rfl).mono ?_
   rintro e w2 ⟨rfl, b2⟩
   have HB3 := Lib.hid (HB2.out.trans (b2.mono HB2.out.size))
   clear b2
   go_wp2_with fail
   go_roundw
   case rel => exact ⟨j + 1, by omega, by go_num, by rw [HNX.out]; go_num, HB3.out⟩
   case measure => simp [intOf]; omega
  ·obtain rfl : j = a.n := by omega
   have d1 : decide ((a.n : Int) < (a.n : Int)) = false := by simp
   have HN2 := HN.out
   go_wp2_with fail
   go_ret
   exact ⟨by rw [HN2]; rfl, HB.out⟩
set_option maxRecDepth 100000 in
set_option maxHeartbeats 1000000 in
theorem watch (h : Tab w base S m a) (ho : a.Ok b) (hb : b ≤ 380) {who : Nat} (hw : who < 8) (u : ByteArray) (hu : u.size ≤ maxLen) :
  Calls Tryz.prog 50 #[.pointer (some ⟨m, 0, none⟩), .int .i64 (who : Int), .string u] w (Did w base S m (a.watch who u).1 (a.watch who u).2) := by
 obtain ⟨a', ha'⟩ : ∃ a', (a.watch who u).1 = a' := ⟨_, rfl⟩
 obtain ⟨er, her⟩ : ∃ er, (a.watch who u).2 = er := ⟨_, rfl⟩
 rw [ha', her]
 have HA := Lib.hid ha'
 have HR := Lib.hid her
 clear ha' her
 obtain ⟨t, c, arr, p, g, Sk, h⟩ := h
 have hn1 := ho.n1
 have hn8 := ho.n8
 have HO := Lib.hid ho
 have H := Lib.hid h
 obtain ⟨k, hk⟩ : ∃ k, str u a.n = k := ⟨_, rfl⟩
 have hlt : k < a.n := hk ▸ str_lt u hn1
 have HK := Lib.hid hk
 clear h ho hk
 go_enter Tryz.func50, Tryz.ntmps50
 go_wp2_with fail
 refine (of_ H.out u hu hn1 hn8 HK.out).mono ?_
 rintro e w3 ⟨rfl, b3⟩
 have HT3 := Lib.hid (H.out.below b3)
 have HG3 : Hid (Gone w S w3 S) := Gone.of_below b3
 have l3 := HT3.out.row.lt
 have d1 : w3.cell? ⟨t, k * 2 + 1, none⟩ = some (.pointer (some ⟨g k, 0, none⟩)) := (HT3.out.row.cell _).trans (HT3.out.fdc k hlt)
 have d2 : w3.cell? ⟨m, 1, none⟩ = some (.int .i64 a.lim) := HT3.out.box.cell' rfl
 obtain ⟨bw, hbw⟩ : ∃ bw, (a.fd k).has who u = bw := ⟨_, rfl⟩
 obtain ⟨nn, hnn⟩ : ∃ nn : Int, (a.watched who : Int) = nn := ⟨_, rfl⟩
 have HWE : Hid (a.watch who u = if bw = false ∧ a.lim ≤ nn then (a, 4) else (a.feed1 k { a.fd k with wat := upd (a.fd k).wat who (putK OmapU.lt u 0 ((a.fd k).wat who)) }, 0)) := by show _ = _; unfold Mo.watch; rw [show str u a.n = k from HK.out, hbw, hnn]
 rw [HWE.out] at HA HR
 have hwl := HO.out.wat k hlt who hw
 have bd := Law.below_drewN (Below.refl w3.heap.size w3) 1
 have HT4 : Hid (TabV w3.drew base S m t c arr p g Sk a) := HT3.out.below bd
 have HG4 : Hid (Gone w S w3.drew S) := HG3.out.trans (Gone.of_below bd)
 have d4 : w3.drew.cell? ⟨m, 1, none⟩ = some (.int .i64 a.lim) := d2
 have l4 : m < w3.drew.heap.size := HT4.out.box.lt
 have HBW := Lib.hid hbw
 have HNN := Lib.hid hnn
 clear HWE HT3 HG3 bd hbw hnn
 go_upto_region 2 with (fail)
 cases bw with
 | true =>
   rw [if_neg (fun h => Bool.noConfusion h.1)] at HA HR
   obtain rfl := HA.out
   obtain rfl := HR.out
   refine wp_region_held_drew (S := fun _ => True) (by kernel_rfl) trivial (fun hS0 => ?_)
   refine Go.Law.tk 0 ⟨some 14, .move (.tmp 7), _, _, _, _⟩ (v := .pointer (some ⟨g k, 0, none⟩)) hS0 ?_ ?_
   ·intro w' hSw
    go_simp
   try simp only [Go.Law.pz]
   refine Go.Law.tk 1 ⟨some 15, .move (.tmp 1), _, _, _, _⟩ (v := .int .i64 (who : Int)) hS0 ?_ ?_
   ·intro w' hSw
    go_simp
   try simp only [Go.Law.pz]
   refine Go.Law.tk 2 ⟨some 16, .move (.tmp 2), _, _, _, _⟩ (v := .string u) hS0 ?_ ?_
   ·intro w' hSw
    go_simp
   try simp only [Go.Law.pz]
   generalize w3.drew = w4 at *
   refine wpAnyH_ready (rs := [3]) (by kernel_rfl) (by simp) ?_
   refine AllReadyH.cons (o := ⟨some 17, .call { callee := .value (.func 77), args := #[.tmp 14, .tmp 15, .tmp 16], argTypes := _ }, _, _, _, _⟩) rfl (fun K hK => ?_) AllReadyH.nil
   go_simp
   refine Calls.mono (watchingE (k := who) (HT4.out.feed k hlt) rfl hw u HBW.out) ?_
   rintro e w5 ⟨rfl, b5⟩
   have HT5 := Lib.hid (HT4.out.below b5)
   have HG5 := Lib.hid (HG4.out.trans (Gone.of_below b5))
   go_wp2_with fail
   refine hK.out _ _ trivial (fun hS1 => ?_)
   clear hK K
   try simp only [Go.Law.pz]
   refine Go.Law.tk 4 ⟨some 18, .unOp .not 4 (.tmp 17), _, _, _, _⟩ (v := .bool false) hS1 ?_ ?_
   ·intro w' hSw
    go_simp
   try simp only [Go.Law.pz]
   refine Go.Law.tk 5 ⟨some 19, .move (.tmp 18), _, _, _, _⟩ (v := .bool false) hS1 ?_ ?_
   ·intro w' hSw
    go_simp
   try simp only [Go.Law.pz]
   refine Go.Law.sk 6 ⟨some 20, .move (.tmp 0), _, _, _, _⟩ hS1 ?_
   try simp only [Go.Law.pz]
   refine Go.Law.sk 7 ⟨some 21, .move (.tmp 1), _, _, _, _⟩ hS1 ?_
   try simp only [Go.Law.pz]
   refine Go.Law.sk 8 ⟨some 22, .call _, _, _, _, _⟩ hS1 ?_
   try simp only [Go.Law.pz]
   refine Go.Law.sk 9 ⟨some 23, .move (.tmp 0), _, _, _, _⟩ hS1 ?_
   try simp only [Go.Law.pz]
   refine Go.Law.sk 10 ⟨some 24, .nilCheck (.tmp 23), _, _, _, _⟩ hS1 ?_
   try simp only [Go.Law.pz]
   refine Go.Law.sk 11 ⟨some 25, .fieldAddr 67 (.tmp 24) 1, _, _, _, _⟩ hS1 ?_
   try simp only [Go.Law.pz]
   refine Go.Law.sk 12 ⟨some 26, .load 3 (.tmp 25), _, _, _, _⟩ hS1 ?_
   try simp only [Go.Law.pz]
   refine Go.Law.sk 13 ⟨some 27, .binOp .geq 3 (.tmp 22) (.tmp 26) 3, _, _, _, _⟩ hS1 ?_
   try simp only [Go.Law.pz]
   refine Go.Law.tk 14 ⟨some 28, .pick (.tmp 19) (.tmp 27) (.const (.bool false)), _, _, _, _⟩ (v := .bool false) hS1 ?_ ?_
   ·intro w' hSw
    go_simp
   try simp only [Go.Law.pz]
   refine wpAnyH_done (by kernel_rfl) ?_ _
   go_wp2_with fail
   refine (watchE (k := who) (HT5.out.feed k hlt) rfl hw u (by omega) rfl).mono ?_
   rintro e w7 ⟨rfl, hF, hW⟩
   have HT7 := Lib.hid (HT5.out.tell hlt hF hW)
   clear hF hW
   go_wp2_with fail
   go_ret
   exact ⟨rfl, _, ⟨_, _, _, _, _, _, HT7.out.1⟩, HG5.out.trans HT7.out.2⟩
 | false =>
   refine wp_region_held_drew (S := fun w' => w'.cell? ⟨m, 1, none⟩ = some (.int .i64 a.lim) ∧ m < w'.heap.size) (by kernel_rfl) ⟨d4, l4⟩ (fun hS0 => ?_)
   refine Go.Law.tk 0 ⟨some 14, .move (.tmp 7), _, _, _, _⟩ (v := .pointer (some ⟨g k, 0, none⟩)) hS0 ?_ ?_
   ·intro w' hSw
    go_simp
   try simp only [Go.Law.pz]
   refine Go.Law.tk 1 ⟨some 15, .move (.tmp 1), _, _, _, _⟩ (v := .int .i64 (who : Int)) hS0 ?_ ?_
   ·intro w' hSw
    go_simp
   try simp only [Go.Law.pz]
   refine Go.Law.tk 2 ⟨some 16, .move (.tmp 2), _, _, _, _⟩ (v := .string u) hS0 ?_ ?_
   ·intro w' hSw
    go_simp
   try simp only [Go.Law.pz]
   generalize w3.drew = w4 at *
   refine wpAnyH_ready (rs := [3]) (by kernel_rfl) (by simp) ?_
   refine AllReadyH.cons (o := ⟨some 17, .call { callee := .value (.func 77), args := #[.tmp 14, .tmp 15, .tmp 16], argTypes := _ }, _, _, _, _⟩) rfl (fun K hK => ?_) AllReadyH.nil
   go_simp
   refine Calls.mono (watchingE (k := who) (HT4.out.feed k hlt) rfl hw u HBW.out) ?_
   rintro e w5 ⟨rfl, b5⟩
   have HT5 := Lib.hid (HT4.out.below b5)
   have HG5 := Lib.hid (HG4.out.trans (Gone.of_below b5))
   go_wp2_with fail
   refine hK.out _ _ ⟨(b5.cell (p := ⟨m, 1, none⟩) l4).trans d4, Nat.lt_of_lt_of_le l4 b5.size⟩ (fun hS1 => ?_)
   clear hK K
   try simp only [Go.Law.pz]
   refine Go.Law.tk 4 ⟨some 18, .unOp .not 4 (.tmp 17), _, _, _, _⟩ (v := .bool true) hS1 ?_ ?_
   ·intro w' hSw
    go_simp
   try simp only [Go.Law.pz]
   refine Go.Law.tk 5 ⟨some 19, .move (.tmp 18), _, _, _, _⟩ (v := .bool true) hS1 ?_ ?_
   ·intro w' hSw
    go_simp
   try simp only [Go.Law.pz]
   refine Go.Law.tk 6 ⟨some 20, .move (.tmp 0), _, _, _, _⟩ (v := .pointer (some ⟨m, 0, none⟩)) hS1 ?_ ?_
   ·intro w' hSw
    go_simp
   try simp only [Go.Law.pz]
   refine Go.Law.tk 7 ⟨some 21, .move (.tmp 1), _, _, _, _⟩ (v := .int .i64 (who : Int)) hS1 ?_ ?_
   ·intro w' hSw
    go_simp
   try simp only [Go.Law.pz]
   refine Go.Law.tk 9 ⟨some 23, .move (.tmp 0), _, _, _, _⟩ (v := .pointer (some ⟨m, 0, none⟩)) hS1 ?_ ?_
   ·intro w' hSw
    go_simp
   try simp only [Go.Law.pz]
   refine Go.Law.tk 10 ⟨some 24, .nilCheck (.tmp 23), _, _, _, _⟩ (v := .pointer (some ⟨m, 0, none⟩)) hS1 ?_ ?_
   ·intro w' hSw
    go_simp
   try simp only [Go.Law.pz]
   refine Go.Law.tk 11 ⟨some 25, .fieldAddr 67 (.tmp 24) 1, _, _, _, _⟩ (v := .pointer (some ⟨m, 1, none⟩)) hS1 ?_ ?_
   ·intro w' hSw
    go_simp
   try simp only [Go.Law.pz]
   refine Go.Law.tk 12 ⟨some 26, .load 3 (.tmp 25), _, _, _, _⟩ (v := .int .i64 a.lim) hS1 ?_ ?_
   ·intro w' hSw
    obtain ⟨s1, s2⟩ := hSw
    go_simp
   try simp only [Go.Law.pz]
   refine wpAnyH_ready (rs := [8]) (by kernel_rfl) (by simp) ?_
   refine AllReadyH.cons (o := ⟨some 22, .call { callee := .value (.func 78), args := #[.tmp 20, .tmp 21], argTypes := _ }, _, _, _, _⟩) rfl (fun K hK => ?_) AllReadyH.nil
   go_simp
   refine Calls.mono (watched ⟨_, _, _, _, _, _, HT5.out⟩ HO.out hb hw HNN.out) ?_
   rintro e w6 ⟨rfl, b6⟩
   have HT6 := Lib.hid (HT5.out.below b6)
   have HG6 := Lib.hid (HG5.out.trans (Gone.of_below b6))
   go_wp2_with fail
   refine hK.out _ _ ⟨(b6.cell (p := ⟨m, 1, none⟩) hS1.2).trans hS1.1, Nat.lt_of_lt_of_le hS1.2 b6.size⟩ (fun hS2 => ?_)
   clear hK K
   try simp only [Go.Law.pz]
   refine Go.Law.tk 13 ⟨some 27, .binOp .geq 3 (.tmp 22) (.tmp 26) 3, _, _, _, _⟩ (v := .bool (decide (a.lim ≤ nn))) hS2 ?_ ?_
   ·intro w' hSw
    go_simp
   try simp only [Go.Law.pz]
   refine Go.Law.tk 14 ⟨some 28, .pick (.tmp 19) (.tmp 27) (.const (.bool false)), _, _, _, _⟩ (v := .bool (decide (a.lim ≤ nn))) hS2 ?_ ?_
   ·intro w' hSw
    go_simp
   try simp only [Go.Law.pz]
   refine wpAnyH_done (by kernel_rfl) ?_ _
   by_cases hlim : a.lim ≤ nn
   ·have dl : decide (a.lim ≤ nn) = true := by simpa using hlim
    rw [if_pos (by simpa using hlim)] at HA HR
    obtain rfl := HA.out
    obtain rfl := HR.out
    rw [dl]
    go_wp2_with fail
    go_ret
    exact ⟨rfl, S, ⟨_, _, _, _, _, _, HT6.out⟩, HG6.out⟩
   ·have dl : decide (a.lim ≤ nn) = false := by simpa using hlim
    rw [if_neg (by simpa using hlim)] at HA HR
    obtain rfl := HA.out
    obtain rfl := HR.out
    rw [dl]
    go_wp2_with fail
    refine (watchE (k := who) (HT6.out.feed k hlt) rfl hw u (by omega) rfl).mono ?_
    rintro e w7 ⟨rfl, hF, hW⟩
    have HT7 := Lib.hid (HT6.out.tell hlt hF hW)
    clear hF hW
    go_wp2_with fail
    go_ret
    exact ⟨rfl, _, ⟨_, _, _, _, _, _, HT7.out.1⟩, HG6.out.trans HT7.out.2⟩
end
end Mod
end Go.Proofs.YtohdlnefgieenaaGreat
